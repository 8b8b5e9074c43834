import PyProof.Rows.All
import Wide.All
import OpenK.AllK
import Wide.FinOn
import Lean
import PyProof.EqAt
import PyProof.EqKinds
import PyProof.TupleCall
import PySem.Challenge.RW_roundcall_k93_best_answer_rank
/-! THE HAND LAYER, for ints, bools, texts, own classes, LISTS and tuples (index, slices, in, append, pop ..), calls, loops. Paste it whole ahead of your own text; what your proof does not reach may be deleted. -/
set_option Elab.async false
set_option linter.all false
set_option maxRecDepth 100000
set_option maxHeartbeats 4000000
set_option bootstrap.genMatcherCode false
namespace L2
local macro_rules | `(tactic| omega) => `(tactic| lia)
open PySem PySem.Spec PyProof.Rows
abbrev Dt:=Sum Int Str
def Gu:Dt -> Value -> Bool
 | .inl k,v=>Value.isInt k v
 | .inr x,v=>Value.isStrOf x v
def lh (w:World):Dt -> Int
 | .inl k=>hashInt k
 | .inr x=>hashStr w x
theorem Bz:∀ {k:Dt} {v:Value},Gu k v = true -> (∃ i t,k = Sum.inl i /\ v = Value.int i t) \/ (∃ x t,k = Sum.inr x /\ v = Value.str x t)
 | .inl i,v,h=>by
  obtain ⟨t,e⟩ := Value.isInt_shape (k:=i) (v:=v) h
  exact .inl ⟨i,t,rfl,e⟩
 | .inr x,v,h=>by
  obtain ⟨t,e⟩ := Value.isStrOf_shape (x:=x) (v:=v) h
  exact .inr ⟨x,t,rfl,e⟩
theorem Ur (i:Int) (t:Tok):Gu (.inl i) (.int i t) = true:=by simp [Gu,Value.isInt]
theorem Us (x:Str) (t:Tok):Gu (.inr x) (.str x t) = true:=by simp [Gu,Value.isStrOf]
theorem bg (a b:Int):decide ((Sum.inl a:Dt) = Sum.inl b) = (a == b):=by
 by_cases e:a = b
 ·subst e; simp
 ·have h:¬ (Sum.inl a:Dt) = Sum.inl b:=fun q=>e (Sum.inl.inj q)
  rw [decide_eq_false h]
  exact (beq_eq_false_iff_ne.mpr e).symm
theorem bj (a b:Str):decide ((Sum.inr a:Dt) = Sum.inr b) = decide (a = b):=by
 by_cases e:a = b
 ·subst e; simp
 ·have h:¬ (Sum.inr a:Dt) = Sum.inr b:=fun q=>e (Sum.inr.inj q)
  rw [decide_eq_false h,decide_eq_false e]
theorem bh (a:Int) (b:Str):decide ((Sum.inl a:Dt) = Sum.inr b) = false:=decide_eq_false (fun q=>nomatch q)
theorem bi (a:Str) (b:Int):decide ((Sum.inr a:Dt) = Sum.inl b) = false:=decide_eq_false (fun q=>nomatch q)
def D7 (prog:Program) (w:World):PySem.KeyKind prog w Dt where
 is:=Gu
 hash:=lh w
 inj:=fun v a b ha hb=>by
  rcases Bz ha with ⟨i,t,rfl,rfl⟩ | ⟨x,t,rfl,rfl⟩
  ·rcases Bz hb with ⟨j,u,rfl,e⟩ | ⟨y,u,rfl,e⟩
   ·injection e with e1 _; rw [e1]
   ·exact nomatch e
  ·rcases Bz hb with ⟨j,u,rfl,e⟩ | ⟨y,u,rfl,e⟩
   ·exact nomatch e
   ·injection e with e1 _; rw [e1]
 byValue:=fun k v h=>by
  rcases Bz h with ⟨i,t,rfl,rfl⟩ | ⟨x,t,rfl,rfl⟩ <;> rfl
 pyHash:=fun hv h=>by
  rcases Bz hv with ⟨i,t,rfl,rfl⟩ | ⟨x,t,rfl,rfl⟩
  ·exact wpAny_pyHash_int h
  ·exact wpAny_pyHash_str h
 eqBool:=fun hu hv h=>by
  rcases Bz hu with ⟨i,t,rfl,rfl⟩ | ⟨x,t,rfl,rfl⟩
  ·rcases Bz hv with ⟨j,u,rfl,rfl⟩ | ⟨y,u,rfl,rfl⟩
   ·rw [bg] at h; exact wpAny_eqBool_int h
   ·rw [bh] at h; exact SeqAt.EqAt.int_str i t y u _ _ _ _ h
  ·rcases Bz hv with ⟨j,u,rfl,rfl⟩ | ⟨y,u,rfl,rfl⟩
   ·rw [bi] at h; exact SeqAt.EqAt.str_int x t j u _ _ _ _ h
   ·rw [bj] at h; exact wpAny_eqBool_str h
 «strs» := fun k x t v h=>by
  rcases Bz h with ⟨i,u,rfl,e⟩ | ⟨y,u,rfl,e⟩
  ·exact nomatch e
  ·injection e with e1 _
   subst e1
   cases v <;> rfl
theorem Qi (prog:Program) (w:World) (i:Int) (t:Tok):(D7 prog w).is (.inl i) (.int i t) = true:=Ur i t
theorem Qj (prog:Program) (w:World) (x:Str) (t:Tok):(D7 prog w).is (.inr x) (.str x t) = true:=Us x t
inductive V where
 | cZ | bl (b:Bool) | int (i:Int) | str (x:Str) | nI (b:Array UInt8) | vU (b:UInt64) | ref (a:Addr) | ty (n:String)
 deriving DecidableEq
def B4:V -> Value -> Prop
 | .cZ,u=>u = Value.none
 | .bl b,u=>u = Value.bool b
 | .int i,u=>∃ t,u = Value.int i t
 | .str x,u=>∃ t,u = Value.str x t
 | .nI b,u=>∃ t,u = Value.bytes b t
 | .vU b,u=>∃ t,u = Value.float b t
 | .ref a,u=>u = Value.ref a
 | .ty n,u=>u = Value.type n
abbrev B2:List V -> List Value -> Prop:=Paired B4
theorem B2.length {xs:List V} {us:List Value} (r:B2 xs us):xs.length = us.length:=Paired.length r
theorem B2.get:∀ {xs:List V} {us:List Value} {i:Nat} {x:V},B2 xs us -> xs[i]? = some x -> ∃ u,us[i]? = some u /\ B4 x u
 | _,_,_,_,.nil,e=>by simp at e
 | _,_,0,_,.cons r _,e=>by simp at e; subst e; exact ⟨_,rfl,r⟩
 | _,_,i + 1,x,.cons _ t,e=>by
  obtain ⟨u,h1,h2⟩ := B2.get (i:=i) (x:=x) t (by simpa using e)
  exact ⟨u,by simpa using h1,h2⟩
theorem B2.set {x:V} {u:Value} (r:B4 x u):∀ {xs:List V} {us:List Value} (i:Nat),B2 xs us -> B2 (xs.set i x) (us.set i u)
 | _,_,_,.nil=>.nil
 | _,_,0,.cons _ t=>.cons r t
 | _,_,i + 1,.cons q t=>.cons q (B2.set r i t)
theorem B2.append {xs ys:List V} {us ws:List Value} (h:B2 xs us) (s:B2 ys ws):B2 (xs ++ ys) (us ++ ws):=by
 induction h with
 | nil=>exact s
 | cons r t ih=>exact .cons r ih
theorem B2.take:∀ {xs:List V} {us:List Value} (n:Nat),B2 xs us -> B2 (xs.take n) (us.take n)
 | _,_,0,_=>.nil
 | _,_,_ + 1,.nil=>.nil
 | _,_,n + 1,.cons r t=>.cons r (B2.take n t)
theorem B2.drop:∀ {xs:List V} {us:List Value} (n:Nat),B2 xs us -> B2 (xs.drop n) (us.drop n)
 | _,_,0,r=>r
 | _,_,_ + 1,.nil=>.nil
 | _,_,n + 1,.cons _ t=>B2.drop n t
def Ey:Option V -> Option Value -> Prop
 | some v,some u=>B4 v u
 | none,none=>True
 | _,_=>False
def KV {κ:Type}:List (κ × V) -> List (κ × Value) -> Prop:=Paired fun (p:κ × V) (q:κ × Value)=>p.1 = q.1 /\ B4 p.2 q.2
def kV:Dt -> V
 | .inl i=>.int i
 | .inr x=>.str x
section
variable {prog:Program} {w:World}
def Co (prog:Program) (w:World) (h:Heap) (k:List Int × Int) (a:Addr):Prop :=
 ∃ o n u t,h.get? a = some o /\ o.cls = .type "tuple" /\ o.data = .seq #[.ref u,.int k.2 t] n /\ IsTupleKey (intKind prog w) h k.1 u
theorem Co.typeIs {s:Shared} {k:List Int × Int} {a:Addr} (x:Co prog w s.heap k a):s.TypeIs (.ref a) "tuple" := let ⟨o,_,_,_,ho,hc,_⟩ := x; ⟨o,ho,hc⟩
theorem Co.inj {h:Heap} {a:Addr} {x y:List Int × Int} (hx:Co prog w h x a) (hy:Co prog w h y a):x = y:=by
 obtain ⟨o,n,u,t,ho,_,hd,hi⟩ := hx
 obtain ⟨o',n',u',t',oN,_,oO,sm⟩ := hy
 obtain rfl:o = o':=Option.some.inj (ho.symm.trans oN)
 rw [hd] at oO
 injection oO with h1 _
 simp only [Array.mk.injEq,List.cons.injEq,Value.ref.injEq,Value.int.injEq,and_true] at h1
 obtain ⟨rfl,h2,_⟩ := h1
 exact Prod.ext (hi.inj sm) h2
theorem Co.keeps {h h':Heap} {k:List Int × Int} {a d:Addr} {o:Obj} {es ep} (x:Co prog w h k a) (ho:h.get? d = some o) (hd:o.data = .dict es ep) (hs:Heap.SameBut d h h'):Co prog w h' k a:=by
 obtain ⟨o',n,u,t,oN,hc,oO,hi⟩ := x
 have eZ:a ≠ d:=by
  rintro rfl
  obtain rfl:o' = o:=Option.some.inj (oN.symm.trans ho)
  rw [hd] at oO
  exact nomatch oO
 exact ⟨o',n,u,t,(hs.2 a eZ).trans oN,hc,oO,hi.keeps ho hd hs⟩
def Iq (prog:Program) (w:World) (k:List Int × Int):Int:=reduceHash (Builtin.Tuple.tupleHashOf [tupleKeyHash (intKind prog w) k.1,(intKind prog w).hash k.2])
theorem Sx {A : Around} {E : Value -> Shared -> Prop} {s : Shared} {k : List Int × Int} {a : Addr} {Q : Int -> Shared -> Prop} (hu : A.units + 8 < cLine) (hk : Co prog w s.heap k a) (h : Q (Iq prog w k) { s with toks := s.toks + (k.1.length + 3) }) :
  wpAny (model prog w) A (pyHash (.ref a)) Q E s:=by
 have hT:=hk.typeIs
 obtain ⟨o,n,u,t,ho,_,hd,hi⟩ := hk
 unfold pyHash
 first | unfold pyHashByItsType | skip
 first | refine wpAny_bind (wpAny_cRoomFor_or (.inr (by omega)) ?_) | skip
 refine wpAny_bind (wpAny_specialOf hT F.slot_tuple_hash.lookup ?_)
 show wpAny _ _ (if (some (Value.builtin "tuple.__hash__") == some Value.none) = true then _ else _) Q E s
 rw [if_neg (by rw [beq_builtin_none]; exact Bool.false_ne_true)]
 refine wpAny_bind (wpAny_specialOf hT F.slot_tuple_hash.lookup ?_)
 show wpAny _ _ (callSpecialIfBoundUnlessNone? (.ref a) "__hash__" _ >>= _) Q E s
 refine wpAny_bind (wpAny_callSpecialIfBoundUnlessNone?_slot hT F.slot_tuple_hash (wpAny_call_entry F.slot_tuple_hash hT F.entry_tuple_hash ?_ (F.args_tuple_hash_1 _)))
 show wpAny _ _ (Builtin.Tuple.tupleItemsOf (.ref a) >>= _) _ _ s
 refine wpAny_bind (wpAny_tupleItemsOf ho hd ?_)
 refine wpAny_bind ?_
 rw [<- Array.forIn_toList]
 show wpAny _ _ (forIn [Value.ref u,Value.int k.2 t] _ _) _ _ _
 rw [List.forIn_cons]
 have vV:A.in1.units < cLine:=by
  first | (show A.units + 1 < cLine; omega) | (show A.units < cLine; omega) | (simp only [Around.in1]; omega)
 refine wpAny_bind (wpAny_bind (wpAny_pyHash_tuple (knd:=intKind prog w) vV hi ?_))
 refine wpAny_pure ?_
 show wpAny _ _ (forIn [Value.int k.2 t] _ _) _ _ _
 rw [List.forIn_cons]
 refine wpAny_bind (wpAny_bind ((intKind prog w).pyHash (k:=k.2) (by simp [intKind,Value.isInt]) ?_))
 refine wpAny_pure ?_
 show wpAny _ _ (forIn [] _ _) _ _ _
 rw [List.forIn_nil]
 refine wpAny_pure ?_
 show wpAny _ _ (retInt (Builtin.Tuple.tupleHashOf [tupleKeyHash (intKind prog w) k.1,(intKind prog w).hash k.2])) _ _ _
 refine wpAny_ret_mkInt ?_
 generalize e:Builtin.Tuple.tupleHashOf [tupleKeyHash (intKind prog w) k.1,(intKind prog w).hash k.2] = z
 show wpAny _ _ (if (decide (-(2:Int) ^ 63 <= z) && decide (z < 2 ^ 63)) = true then _ else _) Q E _
 unfold Iq reduceHash at h
 rw [e] at h
 by_cases hr:(decide (-(2:Int) ^ 63 <= z) && decide (z < 2 ^ 63)) = true
 ·rw [if_pos hr]
  rw [if_pos hr] at h
  exact wpAny_pure (by simpa [Nat.add_assoc] using h)
 ·rw [if_neg hr]
  rw [if_neg hr] at h
  exact wpAny_bind (wpAny_rule (wpAny_pure (by simpa [Nat.add_assoc] using h)))
theorem Y9 {A : Around} {E : Value -> Shared -> Prop} {s : Shared} {x y : List Int × Int} {a b : Addr} {Q : Bool -> Shared -> Prop} (hu : A.units + 8 < cLine) (hx : Co prog w s.heap x a) (hy : Co prog w s.heap y b) (h : Q (decide (x = y)) s) :
  wpAny (model prog w) A (eqBool (.ref a) (.ref b)) Q E s:=by
 unfold eqBool
 try with_reducible refine wpAny_holding ?_
 show wpAny _ _ (if (Value.ref a == Value.ref b) = true then _ else _) Q E s
 by_cases SI:(Value.ref a == Value.ref b) = true
 ·rw [if_pos SI]
  have e:a = b:=by have:=eq_of_beq SI; injection this
  subst e
  obtain rfl:=hx.inj hy
  exact wpAny_bind (wpAny_rule (wpAny_pure (by simpa using h)))
 ·rw [if_neg SI]
  refine wpAny_bind (wpAny_richCompare_same_room (op := .Eq) hx.typeIs hy.typeIs F.slot_tuple_eq
   (wpAny_call_entry F.slot_tuple_eq hx.typeIs F.entry_tuple_eq ?_ (F.args_tuple_eq_2 _ _)) (by omega))
  have hTb:=hy.typeIs
  obtain ⟨oa,na,ua,ta,hoa,_,hda,hia⟩ := hx
  obtain ⟨ob,nb,ub,tb,hob,_,mE,hib⟩ := hy
  show wpAny _ _ (isInstance (.ref b) (.type "tuple") >>= _) _ _ s
  refine wpAny_bind (wpAny_isInstance hTb isSubtype_tuple_tuple ?_)
  simp only [Bool.not_true,Bool.false_eq_true,if_false]
  refine wpAny_bind (wpAny_tupleItemsOf hoa hda ?_)
  refine wpAny_bind (wpAny_tupleItemsOf hob mE ?_)
  refine wpAny_bind ?_
  show wpAny _ _ (forIn [(Value.ref ua,Value.ref ub),(Value.int x.2 ta,Value.int y.2 tb)] _ _) _ _ _
  rw [List.forIn_cons]
  have vV:A.in1.units < cLine:=by
   first | (show A.units + 1 < cLine; omega) | (show A.units < cLine; omega) | (simp only [Around.in1]; omega)
  refine wpAny_bind (wpAny_bind (wpAny_eqBool_tuple (knd:=intKind prog w) vV hia hib ?_))
  by_cases h1:x.1 = y.1
  ·rw [decide_eq_true h1]
   simp only [Bool.not_true,Bool.false_eq_true,if_false]
   refine wpAny_pure ?_
   show wpAny _ _ (forIn [(Value.int x.2 ta,Value.int y.2 tb)] _ _) _ _ _
   rw [List.forIn_cons]
   refine wpAny_bind (wpAny_bind ((intKind prog w).eqBool (a:=x.2) (b:=y.2) (by simp [intKind,Value.isInt]) (by simp [intKind,Value.isInt]) ?_))
   by_cases h2:x.2 = y.2
   ·rw [decide_eq_true h2]
    simp only [Bool.not_true,Bool.false_eq_true,if_false]
    refine wpAny_pure ?_
    show wpAny _ _ (forIn [] _ _) _ _ _
    rw [List.forIn_nil]
    refine wpAny_pure ?_
    have e:decide (x = y) = true:=decide_eq_true (Prod.ext h1 h2)
    rw [e] at h
    exact wpAny_pure ⟨_,rfl,(fun e=>nomatch e),wpAny_truthy_bool h⟩
   ·rw [decide_eq_false h2]
    simp only [Bool.not_false,if_true]
    have e:decide (x = y) = false:=decide_eq_false fun z=>h2 (by rw [z])
    rw [e] at h
    exact wpAny_bind (wpAny_pure (wpAny_pure (wpAny_pure (wpAny_pure ⟨_,rfl,(fun e=>nomatch e),wpAny_truthy_bool h⟩))))
  ·rw [decide_eq_false h1]
   simp only [Bool.not_false,if_true]
   have e:decide (x = y) = false:=decide_eq_false fun z=>h1 (by rw [z])
   rw [e] at h
   exact wpAny_bind (wpAny_pure (wpAny_pure (wpAny_pure (wpAny_pure ⟨_,rfl,(fun e=>nomatch e),wpAny_truthy_bool h⟩))))
theorem du {A:Around} {E:Value -> Shared -> Prop} {s:Shared} {ks:List Int} {a:Addr} {Q:Bool -> Shared -> Prop} (hk:IsTupleKey (intKind prog w) s.heap ks a) (h:Q true s):wpAny (model prog w) A (eqIsQuiet 7 (.ref a)) Q E s:=by
 have hT:=hk.typeIs
 obtain ⟨o,items,n,ho,_,hd,hi⟩ := hk
 unfold eqIsQuiet
 refine wpAny_bind (wpAny_specialOf hT F.slot_tuple_eq.lookup ?_)
 show wpAny _ _ (isInstance (.ref a) (.type "tuple") >>= _) _ _ s
 refine wpAny_bind (wpAny_isInstance hT isSubtype_tuple_tuple ?_)
 simp only [Bool.not_true,Bool.false_eq_true,if_false]
 refine wpAny_bind (wpAny_seqItems ho hd ?_)
 refine wpAny_bind ?_
 show wpAny _ _ (forIn items _ _) _ _ s
 rw [<- Array.forIn_toList]
 refine wpAny_forIn_list _ (fun rest r s'=>r.1 = none /\ s' = s /\ ∀ v ∈ rest,carriedByValue v = true) _ ?_ ?_ _ _ ⟨rfl,rfl,hi.byValue⟩
 ·rintro v rest r s' ⟨hr,rfl,hall⟩
  rw [eqIsQuiet_byValue _ (hall v List.mem_cons_self)]
  refine wpAny_bind (wpAny_pure ?_)
  simp only [Bool.not_true,Bool.false_eq_true,if_false]
  exact wpAny_pure ⟨rfl,rfl,fun u hu'=>hall u (List.mem_cons_of_mem _ hu')⟩
 ·rintro ⟨r1,r2⟩ s' ⟨hr,rfl,_⟩
  simp only at hr
  subst hr
  exact wpAny_pure h
theorem Qw {A:Around} {E:Value -> Shared -> Prop} {s:Shared} {k:List Int × Int} {a:Addr} {Q:Bool -> Shared -> Prop} (hk:Co prog w s.heap k a) (h:Q true s):wpAny (model prog w) A (eqIsQuiet 8 (.ref a)) Q E s:=by
 have hT:=hk.typeIs
 obtain ⟨o,n,u,t,ho,_,hd,hi⟩ := hk
 unfold eqIsQuiet
 refine wpAny_bind (wpAny_specialOf hT F.slot_tuple_eq.lookup ?_)
 show wpAny _ _ (isInstance (.ref a) (.type "tuple") >>= _) _ _ s
 refine wpAny_bind (wpAny_isInstance hT isSubtype_tuple_tuple ?_)
 simp only [Bool.not_true,Bool.false_eq_true,if_false]
 refine wpAny_bind (wpAny_seqItems ho hd ?_)
 refine wpAny_bind ?_
 show wpAny _ _ (forIn #[Value.ref u,Value.int k.2 t] _ _) _ _ s
 rw [<- Array.forIn_toList]
 show wpAny _ _ (forIn [Value.ref u,Value.int k.2 t] _ _) _ _ s
 rw [List.forIn_cons]
 refine wpAny_bind (wpAny_bind (du hi ?_))
 simp only [Bool.not_true,Bool.false_eq_true,if_false]
 refine wpAny_pure ?_
 show wpAny _ _ (forIn [Value.int k.2 t] _ _) _ _ s
 rw [List.forIn_cons,eqIsQuiet_byValue _ rfl]
 refine wpAny_bind (wpAny_bind (wpAny_pure ?_))
 simp only [Bool.not_true,Bool.false_eq_true,if_false]
 refine wpAny_pure ?_
 show wpAny _ _ (forIn [] _ _) _ _ s
 rw [List.forIn_nil]
 exact wpAny_pure (wpAny_pure h)
def Cs (prog:Program) (w:World):HeapKind prog w (List Int × Int) where
 is:=Co prog w
 hash:=Iq prog w
 draws:=fun k=>k.1.length + 3
 room:=fun A=>A.units + 8 < cLine
 inj:=fun hx hy=>hx.inj hy
 keeps:=fun x ho hd hs=>x.keeps ho hd hs
 pyHash:=fun hu hk h=>Sx hu hk h
 eqBool:=fun hu hx hy h=>Y9 hu hx hy h
 quiet:=fun hk h=>Qw hk h
end
set_option genInjectivity false in
set_option genSizeOf false in
inductive HO where
  | lst (xs:List V)
  | tup (xs:List V)
  | dK (kvs:List (Dt × V)) | dT (kvs:List ((List Int × Int) × V))
  | set (S:Int -> Bool) (n:Nat)
  | ins (C dx:Addr) (fs:List (Str × V))
  | own (x:Addr)
  | xd (fs:List (Str × V))
  | met (f x:Addr)
  | QL (lo hi:Int)
  | eM (o:Obj) (u:HO)
  | so (ps:Array Value)
 | tab (q:Str) (pos:Pos)
  | ext (φ:Heap -> Prop)
abbrev Hp:=Addr -> Option HO
def G3 (H:Hp) (b:Addr) (k:List Int × Int):Prop := ∃ u,H b = some (.tup [.ref u,.int k.2]) /\ H u = some (.tup (k.1.map V.int))
theorem G3.up {H H2:Hp} {b:Addr} {k:List Int × Int} (ht:∀ b xs,H b = some (.tup xs) -> H2 b = some (.tup xs)) (h:G3 H b k):G3 H2 b k:=let ⟨u,a1,a2⟩ := h; ⟨u,ht _ _ a1,ht _ _ a2⟩
def upd (H:Hp) (a:Addr) (o:HO):Hp:=fun b=>if b = a then some o else H b
theorem A1 {H:Hp} {a:Addr} {o:HO}:upd H a o a = some o:=by unfold upd; rw [if_pos rfl]
theorem A8 {H:Hp} {a b:Addr} {o:HO} (h:b ≠ a):upd H a o b = H b:=by unfold upd; rw [if_neg h]
theorem Hj {H:Hp} {a:Addr} {o u:HO}:upd (upd H a o) a u = upd H a u:=by
 funext b; unfold upd; split <;> rfl
theorem Bb {H:Hp} {a b:Addr} {o u:HO} (h:H a = some o) (h':H b = some u) (d:o ≠ u):a ≠ b:=by
 intro e; subst e; rw [h] at h'; exact d (Option.some.inj h')
theorem Aa {H:Hp} {a b:Addr} {o:HO} (h:H a = some o) (h':H b = none):a ≠ b:=by
 intro e; subst e; rw [h] at h'; cases h'
section
variable (P:Program) (w:World)
def Bl (H:Hp) (h:Heap) (a:Addr):HO -> Prop
 | .lst xs=>xs.length <= sizeLine /\ ∃ (aU:List Value) (n:Nat),B2 xs aU /\ h.get? a = some { cls := .type "list",data := .seq aU.toArray n }
 | .tup xs=>(xs.length <= sizeLine /\ ∃ o,h.get? a = some o /\ o.dict = none) /\ ∃ aU:List Value,B2 xs aU /\ IsTup h a aU.toArray
 | .dK kvs=>kvs.length <= sizeLine /\ (a == sysModules) = false /\ ∃ vs,KV kvs vs /\ h.DictOf (D7 P w) a vs
 | .dT kvs => kvs.length <= sizeLine /\ (a == sysModules) = false /\ ∃ xs : List ((List Int × Int) × Addr × Value),
   Paired (fun (p:(List Int × Int) × V) (q:(List Int × Int) × Addr × Value)=>p.1 = q.1 /\ G3 H q.2.1 p.1 /\ B4 p.2 q.2.2) kvs xs /\
   ∃ o es ep,h.get? a = some o /\ o.ExactDict /\ o.data = .dict es ep /\ es.toList = xs.map (entryOfKey (Cs P w)) /\ (xs.map (·.1)).Nodup
 | .set S n=>h.SetOf (intKind P w) a S n
 | .ins C dx fs => H dx = some (.own a) /\ fs.length <= 1000 /\ dx ≠ a /\ h.get? a = some (PySem.W.instObj C dx) /\
   ∃ mA,h.Ns1 dx mA /\ (∀ f,Ey (fs.lookup f) (mA f)) /\ PySem.Within mA (fs.map (·.1))
 | .own _=>∃ o,h.get? a = some o
 | .xd fs=>∃ mA,h.Ns1 a mA /\ ∀ f,Ey (fs.lookup f) (mA f)
 | .QL lo hi=>∃ t u v,h.get? a = some { cls := .type "range",data := .fields #[.int lo t,.int hi u,.int 1 v] }
 | .eM o u=>h.get? a = some o /\ Bl H h a u
 | .so ps=>h.get? a = some { cls := .none,data := .fields ps }
 | .tab q pos=>h.get? a = some (PySem.W.tabObj #[]) \/ ∃ c:Addr,H c = some (.own a) /\ c ≠ a /\ h.get? a = some (PySem.W.tabObj #[rawInt pos.line,rawInt pos.col,.ref c]) /\ h.CodeRec (.ref c) q
 | .met f x=>h.get? a = some (PySem.W.methodObj (.ref f) (.ref x))
 | .ext φ=>φ h /\ (∃ o,h.get? a = some o) /\ ∀ h1 h2:Heap,φ h1 -> (∀ o,h1.get? a = some o -> h2.get? a = some o) -> φ h2
def Fh (H:Hp) (h:Heap):Prop := ∀ a o,H a = some o -> Bl P w H h a o
end
section
variable {P:Program} {w:World} {H H':Hp} {h h':Heap} {a:Addr} {o:HO}
theorem Bl.lt (x:Bl P w H h a o):a < h.objs.size:=by
 cases o with
 | lst xs=>obtain ⟨_,_,_,_,e⟩ := x; exact Heap.lt_size e
 | tup xs=>obtain ⟨_,_,_,p⟩ := x; exact p.lt
 | dK kvs=>obtain ⟨_,_,_,_,o,_,_,e,_⟩ := x; exact Heap.lt_size e
 | dT kvs=>obtain ⟨_,_,_,_,o,_,_,e,_⟩ := x; exact Heap.lt_size e
 | set S n=>obtain ⟨o,_,_,_,e,_⟩ := x; exact Heap.lt_size e
 | ins C dx fs=>obtain ⟨_,_,_,e,_⟩ := x; exact Heap.lt_size e
 | own y=>obtain ⟨_,e⟩ := x; exact Heap.lt_size e
 | xd fs=>obtain ⟨_,⟨_,_,_,e,_⟩,_⟩ := x; exact Heap.lt_size e
 | QL lo hi=>obtain ⟨_,_,_,e⟩ := x; exact Heap.lt_size e
 | eM ob u=>obtain ⟨e,_⟩ := x; exact Heap.lt_size e
 | so ps=>exact Heap.lt_size (show h.get? a = some _ from x)
 | tab q pos =>
  rcases x with e | ⟨_,_,_,e,_⟩
  ·exact Heap.lt_size e
  ·exact Heap.lt_size e
 | met f y=>exact Heap.lt_size (show h.get? a = some _ from x)
 | ext φ=>obtain ⟨_,⟨_,e⟩,_⟩ := x; exact Heap.lt_size e
theorem Paired.HN {α β:Type} {F G:α -> β -> Prop} {l₁:List α} {l₂:List β} (h:Paired F l₁ l₂) (f:∀ a b,F a b -> G a b):Paired G l₁ l₂:=by
 induction h with
 | nil=>exact .nil
 | cons r t ih=>exact .cons (f _ _ r) ih
theorem Bl.gQ (x : Bl P w H h a o) (k : ∀ b u, (b = a \/ H b = some (.own a)) -> h.get? b = some u -> h'.get? b = some u)
  (ho:∀ b,H b = some (.own a) -> H' b = some (.own a)) (ht:∀ b xs,H b = some (.tup xs) -> H' b = some (.tup xs)):Bl P w H' h' a o:=by
 induction o with
 | lst xs=>obtain ⟨z,aU,n,r,e⟩ := x; exact ⟨z,aU,n,r,k _ _ (.inl rfl) e⟩
 | tup xs=>obtain ⟨z,aU,r,ob,e,c⟩ := x; exact ⟨⟨z.1,let ⟨o,e2,d⟩ := z.2; ⟨o,k _ _ (.inl rfl) e2,d⟩⟩,aU,r,ob,k _ _ (.inl rfl) e,c⟩
 | dK kvs=>obtain ⟨z,y,vs,r,ob,es,ep,e,c⟩ := x; exact ⟨z,y,vs,r,ob,es,ep,k _ _ (.inl rfl) e,c⟩
 | dT kvs =>
  obtain ⟨z,y,xs,r,ob,es,ep,e,c⟩ := x
  exact ⟨z,y,xs,Paired.HN r fun p q z=>⟨z.1,z.2.1.up ht,z.2.2⟩,ob,es,ep,k _ _ (.inl rfl) e,c⟩
 | set S n=>obtain ⟨ob,es,ep,t,e,c⟩ := x; exact ⟨ob,es,ep,t,k _ _ (.inl rfl) e,c⟩
 | ins C dx fs =>
  obtain ⟨d,z,ne,e,mA,⟨od,es,ep,e2,c⟩,r⟩ := x
  exact ⟨ho _ d,z,ne,k _ _ (.inl rfl) e,mA,⟨od,es,ep,k _ _ (.inr d) e2,c⟩,r⟩
 | own y=>obtain ⟨ob,e⟩ := x; exact ⟨ob,k _ _ (.inl rfl) e⟩
 | xd fs=>obtain ⟨mA,⟨od,es,ep,e,c⟩,r⟩ := x; exact ⟨mA,⟨od,es,ep,k _ _ (.inl rfl) e,c⟩,r⟩
 | QL lo hi=>obtain ⟨t,u,v,e⟩ := x; exact ⟨t,u,v,k _ _ (.inl rfl) e⟩
 | eM ob u ih=>obtain ⟨e,q⟩ := x; exact ⟨k _ _ (.inl rfl) e,ih q⟩
 | tab q pos =>
  rcases x with e | ⟨c,d,ne,e,c2,oc,vs,tq,e2,e3,r⟩
  ·exact .inl (k _ _ (.inl rfl) e)
  ·cases e2
   exact .inr ⟨c,ho _ d,ne,k _ _ (.inl rfl) e,c,oc,vs,tq,rfl,k _ _ (.inr d) e3,r⟩
 | so ps =>
  have e:h.get? a = some { cls := .none,data := .fields ps }:=x
  show h'.get? a = some { cls := .none,data := .fields ps }
  exact k a _ (.inl rfl) e
 | met f y =>
  have e:h.get? a = some (PySem.W.methodObj (.ref f) (.ref y)):=x
  show h'.get? a = some (PySem.W.methodObj (.ref f) (.ref y))
  exact k a _ (.inl rfl) e
 | ext φ=>obtain ⟨p,⟨o,e⟩,st⟩ := x; exact ⟨st _ _ p fun o q=>k _ _ (.inl rfl) q,⟨o,k _ _ (.inl rfl) e⟩,st⟩
theorem Fh.lt (x:Fh P w H h) (e:H a = some o):a < h.objs.size:=(x a o e).lt
theorem Fh.fresh (x:Fh P w H h) (e:h.objs.size <= a):H a = none:=by
 cases q:H a with
 | none=>rfl
 | some u=>exact absurd (Nat.lt_of_lt_of_le (x.lt q) e) (Nat.lt_irrefl _)
theorem Fh.kept (x:Fh P w H h) (k:∀ b u,h.get? b = some u -> h'.get? b = some u):Fh P w H h':=fun a o e =>
 (x a o e).gQ (fun b u _ q=>k b u q) (fun _ q=>q) fun _ _ q=>q
theorem Fh.laid (x:Fh P w H h) (k:∀ b u,h.get? b = some u -> h'.get? b = some u) (hp:h.objs.size <= a) (new:Bl P w (upd H a o) h' a o):Fh P w (upd H a o) h':=fun b u e=>by
 have hn:=x.fresh hp
 by_cases hb:b = a
 ·subst hb; rw [A1] at e; cases e; exact new
 ·rw [A8 hb] at e
  exact (x b u e).gQ (fun c v _ q=>k c v q) (fun c q=>by rw [A8 (Aa q hn)]; exact q) fun c xs q=>by rw [A8 (Aa q hn)]; exact q
end
def Rd (H:Hp) (a:Addr) (u:HO):Prop:=H a = some u \/ ∃ o,H a = some (.eM o u)
theorem Rd.ok {P:Program} {w:World} {H:Hp} {h:Heap} {a:Addr} {u:HO} (r:Rd H a u) (x:Fh P w H h):Bl P w H h a u:=by
 rcases r with r | ⟨o,r⟩
 ·exact x a u r
 ·obtain ⟨_,q⟩ := x a _ r
  exact q
def gn:Option HO -> Prop
 | some (.lst _)=>True
 | some (.dK _)=>True
 | some (.dT _)=>True
 | some (.set _ _)=>True
 | some (.ins _ _ _)=>True
 | some (.ext _)=>True
 | some (.tab _ _)=>True
 | _=>False
section
variable {P:Program} {w:World} {H:Hp} {h h':Heap} {x e:Addr} {o':HO}
theorem Fh.write (ok : Fh P w H h) (mu : gn (H x)) (he : e = x \/ H e = some (.own x)) (k : ∀ b u, b ≠ e -> h.get? b = some u -> h'.get? b = some u) (GI : ∃ u, h'.get? e = some u)
  (new:Bl P w (upd H x o') h' x o'):Fh P w (upd H x o') h':=fun b u q=>by
 have HP:∀ c y,H c = some (.own y) -> c ≠ x:=fun c y r z=>by subst z; rw [r] at mu; exact mu
 have SJ:∀ c xs,H c = some (.tup xs) -> c ≠ x:=fun c xs r z=>by subst z; rw [r] at mu; exact mu
 by_cases hb:b = x
 ·subst hb; rw [A1] at q; cases q; exact new
 ·rw [A8 hb] at q
  by_cases om:b = e
  ·have q' : H b = some (.own x) := by
    rcases he with z | z
    ·exact absurd (om.trans z) hb
    ·rw [om]; exact z
   rw [q] at q'; cases q'
   obtain ⟨v,hv⟩ := GI
   exact ⟨v,by rw [om]; exact hv⟩
  ·refine (ok b u q).gQ (fun c v hc r=>k c v ?_ r) (fun c r=>by rw [A8 (HP c b r)]; exact r) fun c xs r=>by rw [A8 (SJ c xs r)]; exact r
   rcases hc with rfl | hc
   ·exact om
   ·rintro rfl
    rcases he with z | z
    ·exact HP c b hc z
    ·rw [hc] at z; cases z; exact hb rfl
end
structure Un (fs ex:List Addr) (H H':Hp) (h h':Heap):Prop where
 keep:∀ b o,h.get? b = some o -> H b = none -> b ∉ fs -> b ∉ ex -> h'.get? b = some o
 slot:∀ b o,h.get? b = some o -> H b = none -> b ∈ fs -> b ∉ ex -> ∃ sl,h'.get? b = some { o with slots:=sl }
 free:∀ b o,h.get? b = some o -> H b = none -> b ∉ ex -> H' b = none
 there:∀ b o,h.get? b = some o -> b ∉ ex -> ∃ o',h'.get? b = some o'
 fS:∀ b xs,H b = some (.tup xs) -> H' b = some (.tup xs)
 fL:∀ b o u,H b = some (.eM o u) -> H' b = some (.eM o u)
 fT:∀ b ps,H b = some (.so ps) -> ∃ more,H' b = some (.so (ps ++ more))
section
variable {fs fs' ex ex':List Addr} {H H1 H2:Hp} {h h1 h2 h':Heap} {a x e:Addr} {o:HO}
theorem Un.any (u:Un fs ex H H1 h h1) {b:Addr} {ob:Obj} (q:h.get? b = some ob) (n:H b = none) (hx:b ∉ ex):∃ sl,h1.get? b = some { ob with slots:=sl }:=by
 by_cases hb:b ∈ fs
 ·exact u.slot b ob q n hb hx
 ·exact ⟨ob.slots,u.keep b ob q n hb hx⟩
theorem Un.trans (a:Un fs ex H H1 h h1) (b:Un fs ex H1 H2 h1 h2):Un fs ex H H2 h h2 where
 keep:=fun c ob q n hc hx=>b.keep c ob (a.keep c ob q n hc hx) (a.free c ob q n hx) hc hx
 slot:=fun c ob q n hc hx=>by
  obtain ⟨sl,e1⟩ := a.slot c ob q n hc hx
  obtain ⟨HQ,e2⟩ := b.slot c _ e1 (a.free c ob q n hx) hc hx
  exact ⟨HQ,e2⟩
 free:=fun c ob q n hx=>by
  obtain ⟨o',e1⟩ := a.there c ob q hx
  exact b.free c o' e1 (a.free c ob q n hx) hx
 there:=fun c ob q hx=>by
  obtain ⟨o',e1⟩ := a.there c ob q hx
  exact b.there c o' e1 hx
 fS:=fun c xs q=>b.fS c xs (a.fS c xs q)
 fL:=fun c ob xs q=>b.fL c ob xs (a.fL c ob xs q)
 fT:=fun c ps q=>by
  obtain ⟨m1,e1⟩ := a.fT c ps q
  obtain ⟨m2,e2⟩ := b.fT c _ e1
  exact ⟨m1 ++ m2,by rw [e2,Array.append_assoc]⟩
theorem Un.kept (k:∀ b u,h.get? b = some u -> h'.get? b = some u):Un fs ex H H h h' :=
 ⟨fun b ob q _ _ _=>k b ob q,fun b ob q _ _ _=>⟨ob.slots,k b ob q⟩,fun _ _ _ n _=>n,fun b ob q _=>⟨ob,k b ob q⟩,fun _ _ q=>q,fun _ _ _ q=>q,fun _ ps q=>⟨#[],by rw [q]; simp⟩⟩
theorem Un.refl:Un fs ex H H h h:=Un.kept fun _ _ q=>q
theorem Un.laid (k:∀ b u,h.get? b = some u -> h'.get? b = some u) (hp:h.objs.size <= a) (hn:H a = none):Un fs ex H (upd H a o) h h' where
 keep:=fun b u q _ _ _=>k b u q
 slot:=fun b u q _ _ _=>⟨u.slots,k b u q⟩
 free:=fun b u q n _=>by rw [A8 (Nat.ne_of_lt (Nat.lt_of_lt_of_le (Heap.lt_size q) hp))]; exact n
 there:=fun b u q _=>⟨u,k b u q⟩
 fS:=fun b xs q=>by rw [A8 (Aa q hn)]; exact q
 fL:=fun b u xs q=>by rw [A8 (Aa q hn)]; exact q
 fT:=fun b ps q=>⟨#[],by rw [A8 (Aa q hn),q]; simp⟩
theorem Un.write (mu:gn (H x)) (he:e = x \/ H e = some (.own x)) (k:∀ b u,b ≠ e -> h.get? b = some u -> h'.get? b = some u) (GI:∃ u,h'.get? e = some u):Un fs ex H (upd H x o) h h':=by
 have hx:∀ b,H b = none -> b ≠ x:=fun b n z=>by subst z; rw [n] at mu; exact mu
 have hb:∀ b,H b = none -> b ≠ e:=fun b n z=>by
  subst z
  rcases he with r | r
  ·exact hx b n r
  ·rw [n] at r; cases r
 have hm:∀ b u,H b = some u -> ¬ gn (some u) -> b ≠ x:=fun b u q nm z=>by subst z; rw [q] at mu; exact nm mu
 refine ⟨fun b u q n _ _=>k b u (hb b n) q,fun b u q n _ _=>⟨u.slots,k b u (hb b n) q⟩,fun b u q n _=>by rw [A8 (hx b n)]; exact n,fun b u q _=>?_,
  fun b xs q=>by rw [A8 (hm b _ q fun z=>z)]; exact q,fun b u xs q=>by rw [A8 (hm b _ q fun z=>z)]; exact q,fun b ps q=>⟨#[],by rw [A8 (hm b _ q fun z=>z),q]; simp⟩⟩
 by_cases om:b = e
 ·subst om; exact GI
 ·exact ⟨u,k b u om q⟩
end
def ki (h:Heap) (H:Hp):List Addr:=(List.range h.objs.size).filter fun a=>(H a).isSome
def O7 (h:Heap) (H:Hp):Heap:=PySem.W.hideAll h (ki h H)
theorem Uo (h:Heap) (H:Hp):(O7 h H).objs.size = h.objs.size:=PySem.W.hideAll_size _ _
theorem Wr {h:Heap} {H:Hp} {b:Addr} {o:Obj} (e:h.get? b = some o) (n:H b = none):(O7 h H).get? b = some o :=
 PySem.W.hideAll_get _ e fun hm=>by
  have q:(H b).isSome = true:=(List.mem_filter.mp hm).2
  rw [n] at q; simp at q
theorem Z7 {h:Heap} {H:Hp} {b:Addr} {o:Obj} (e:(O7 h H).get? b = some o):h.get? b = some o /\ H b = none:=by
 have e':h.get? b = some o:=PySem.W.of_hideAll (ki h H) e
 refine ⟨e',?_⟩
 cases q:H b with
 | none=>rfl
 | some x =>
  have hm:b ∈ ki h H:=List.mem_filter.mpr ⟨List.mem_range.mpr (Heap.lt_size e'),by simp [q]⟩
  have z:(O7 h H).get? b = none:=PySem.W.hideAll_none (ki h H) hm
  rw [z] at e; cases e
structure Mod (K:PySem.W.Frag) (mg:Str -> Option Value) (base:Heap):Prop where
 eO:K.In base
 glob:base.Ns mainGlobals mg
 blt:∃ mb,base.Ns builtinsNs mb /\ ∀ x:Str,x ≠ "__name__" -> mb x = bootBuiltins x
 nolimit:base.NoLimit
set_option genInjectivity false in
set_option genSizeOf false in
structure Cx where
 prog:Program
 w:World
 K:PySem.W.Frag
 mg:Str -> Option Value
 base:Heap
 A:Around
 N:List Str
 s₀:Shared
 H₀:Hp
 env:Env
 outer:List Env
 stack:List Env
 ex:List Addr
 fn:Str -> Bool
 calm:Bool
 pn:List (Addr × Obj)
 xe:Value -> Shared -> Prop
def gR (l:List Env):List Addr:=l.filterMap (·.frame)
abbrev Cx.fs (X:Cx):List Addr:=gR X.outer
def l5 (sc:Scope) (x:Str):Prop:=sc.names.lookup x = some .local \/ sc.names.lookup x = some .cell \/ sc.names.lookup x = some .free
def kb (sc:Scope) (x:Str):Prop:=sc.names.lookup x = some .local \/ sc.names.lookup x = some .cell
def ko (env:Env) (h:Heap) (m:Str -> Option Value) (x:Str) (u:Value):Prop :=
 (env.kindOf x = some .local /\ m x = some u) \/ ((env.kindOf x = some .cell \/ env.kindOf x = some .free) /\ ∃ c,env.cells.lookup x = some c /\ h.IsCell c (some u))
structure Cx.Ok (X:Cx):Prop where
 mod:Mod X.K X.mg X.base
 kind:X.env.scope.kind = .function
 glob:X.env.globals = mainGlobals
 blt:X.env.builtins = builtinsNs
 above:X.s₀.heap.objs.size <= X.env.locals
 inj:∀ x y c,X.env.cells.lookup x = some c -> X.env.cells.lookup y = some c -> x = y
 has:∀ x,(X.env.kindOf x = some .cell \/ X.env.kindOf x = some .free) -> ∃ c,X.env.cells.lookup x = some c
 vW:∀ x c,X.fn x = true -> X.env.cells.lookup x = some c -> X.s₀.heap.objs.size <= c
 hd:X.calm = true -> X.A.handled = none
 frames:X.A.frames = some X.stack
 GJ:X.stack = X.outer \/ (X.stack = X.env :: X.outer /\ X.env.frame = some X.env.locals)
 HR:∀ b ∈ X.ex,b ≠ X.env.locals /\ ∀ x c,X.env.cells.lookup x = some c -> c ≠ b
 bs:∀ b o,X.base.get? b = some o -> X.s₀.heap.get? b = some o /\ X.H₀ b = none
 oX:X.base.objs.size <= X.s₀.heap.objs.size
 mF:∀ b o,X.base.get? b = some o -> b ∉ X.ex
 mG:∀ b ∈ X.ex,b ∉ X.fs
 fU:X.s₀.heap.FunFrames X.base X.outer
 sI:∀ b ∈ X.fs,X.H₀ b = none
structure Ai (X:Cx) (pins:List (Addr × Obj)) (σ:List (Option V)) (H:Hp) (s:Shared):Prop where
 ok:X.Ok
 os:s.os = X.s₀.os
 bare:AllBare s.gens
 base:Un X.fs X.ex X.H₀ H X.s₀.heap s.heap
 loc:∃ m,s.heap.Ns X.env.locals m /\ ∀ (i:Nat) (x:Str) (v:V),X.N[i]? = some x -> σ[i]? = some (some v) -> l5 X.env.scope x -> ∃ u,B4 v u /\ ko X.env s.heap m x u
 cell:∀ x c,X.env.cells.lookup x = some c -> ∃ v,s.heap.IsCell c v
 free:H X.env.locals = none
 dW:∀ x c,X.env.cells.lookup x = some c -> H c = none
 pin:∀ p ∈ X.pn ++ pins,s.heap.get? p.1 = some p.2 /\ H p.1 = none /\ p.1 ≠ X.env.locals /\ p.1 ∉ X.fs /\ ∀ v,p.2.data ≠ .cell v
 aS:Fh X.prog X.w H s.heap
 len:σ.length = X.N.length
section
variable {X:Cx} {pins:List (Addr × Obj)} {σ:List (Option V)} {H H':Hp} {s:Shared} {h':Heap}
theorem Cx.Ok.SK (ok:X.Ok) {b:Addr} {o:Obj} (e:X.base.get? b = some o):b ∉ X.fs:=fun hb=>by
 have:=(ok.fU.mem hb).1
 rw [e] at this; cases this
theorem Ai.bs (I:Ai X pins σ H s):∀ b o,X.base.get? b = some o -> s.heap.get? b = some o /\ H b = none:=fun b o e =>
 ⟨I.base.keep b o (I.ok.bs b o e).1 (I.ok.bs b o e).2 (I.ok.SK e) (I.ok.mF b o e),I.base.free b o (I.ok.bs b o e).1 (I.ok.bs b o e).2 (I.ok.mF b o e)⟩
theorem Ai.bk (I:Ai X pins σ H s):∀ b o,X.base.get? b = some o -> s.heap.get? b = some o:=fun b o e=>(I.bs b o e).1
theorem Ai.mod (I:Ai X pins σ H s):Mod X.K X.mg X.base:=I.ok.mod
theorem Ai.fQ (I:Ai X pins σ H s):X.K.In s.heap:=I.ok.mod.eO.keeps I.bk
theorem Ai.lt (I:Ai X pins σ H s):X.env.locals < s.heap.objs.size:=let ⟨_,hn,_⟩ := I.loc; hn.lt
theorem Ai.sz (I:Ai X pins σ H s):X.s₀.heap.objs.size <= s.heap.objs.size:=Nat.le_trans I.ok.above (Nat.le_of_lt I.lt)
theorem Ai.SM (I:Ai X pins σ H s) {a:Addr} (h:s.heap.objs.size <= a):a ∉ X.fs:=fun hb=>by
 obtain ⟨_,o,ho,_⟩ := I.ok.fU.mem hb
 exact absurd (Nat.lt_of_lt_of_le (Heap.lt_size ho) (Nat.le_trans I.sz h)) (Nat.lt_irrefl _)
theorem Ai.sJ (I:Ai X pins σ H s):∀ x c,X.env.cells.lookup x = some c -> c ≠ X.env.locals:=fun x c e z=>by
 obtain ⟨v,o,ho,hd⟩ := I.cell x c e
 obtain ⟨m,⟨o',es,ep,oN,oO,_⟩,_⟩ := I.loc
 rw [z,oN] at ho; cases ho; rw [oO] at hd; cases hd
theorem Ai.fU (I:Ai X pins σ H s):s.heap.FunFrames X.base X.outer:=by
 have all:∀ (l:List Env),(∀ b ∈ gR l,b ∈ X.fs) -> X.s₀.heap.FunFrames X.base l -> s.heap.FunFrames X.base l:=by
  intro l
  induction l with
  | nil=>intro _ _; trivial
  | cons env r ih =>
   intro hs hl
   obtain ⟨hk,⟨L,o,hf,hn,ho,hd⟩,hr⟩ := hl
   have hL:L ∈ X.fs:=hs L (by unfold gR; rw [List.filterMap_cons,hf]; exact List.mem_cons_self)
   obtain ⟨sl,e⟩ := I.base.slot L o ho (I.ok.sI L hL) hL fun z=>I.ok.mG L z hL
   exact ⟨hk,⟨L,_,hf,hn,e,hd⟩,ih (fun b hb=>hs b (by unfold gR; rw [List.filterMap_cons,hf]; exact List.mem_cons_of_mem _ hb)) hr⟩
 exact all X.outer (fun _ hb=>hb) I.ok.fU
theorem Ai.stack (I:Ai X pins σ H s):s.heap.FunFrames X.base X.stack:=by
 rcases I.ok.GJ with e | ⟨e,hf⟩
 ·rw [e]; exact I.fU
 ·rw [e]
  obtain ⟨m,hn,_⟩ := I.loc
  refine .cons (by rw [I.ok.kind]; decide) hf hn ?_ I.fU
  exact Heap.get?_none_of_le (Nat.le_trans I.ok.oX I.ok.above)
theorem Ai.mH (I:Ai X pins σ H s):∀ b ∈ gR X.stack,b ∈ X.env.locals :: X.fs:=fun b hb=>by
 rcases I.ok.GJ with e | ⟨e,hf⟩
 ·rw [e] at hb; exact List.mem_cons_of_mem _ hb
 ·rw [e] at hb
  unfold gR at hb
  rw [List.filterMap_cons,hf] at hb
  exact hb
theorem Ai.fI (I:Ai X pins σ H s):∀ b ∈ gR X.stack,H b = none:=fun b hb=>by
 rcases List.mem_cons.mp (I.mH b hb) with e | hb
 ·rw [e]; exact I.free
 ·obtain ⟨_,o,ho,_⟩ := I.ok.fU.mem hb
  exact I.base.free b o ho (I.ok.sI b hb) fun z=>I.ok.mG b z hb
theorem Ai.step {g' : Array GenState} {t' : Nat} {d' : Drawn} {ch : List Addr} (I : Ai X pins σ H s)
  (iL:∀ b ∈ ch,(b ∈ X.ex \/ X.s₀.heap.objs.size <= b) /\ b ≠ X.env.locals /\ (∀ x c,X.env.cells.lookup x = some c -> c ≠ b) /\ ∀ p ∈ X.pn ++ pins,p.1 ≠ b)
  (keep:∀ b o,b ≠ X.env.locals -> b ∉ X.fs -> b ∉ ch -> s.heap.get? b = some o -> H b = none -> h'.get? b = some o)
  (slot:∀ b o,b ≠ X.env.locals -> b ∈ X.fs -> b ∉ ch -> s.heap.get? b = some o -> H b = none -> ∃ sl,h'.get? b = some { o with slots:=sl }) (free:∀ b o,b ∉ ch -> s.heap.get? b = some o -> H b = none -> H' b = none)
  (there:∀ b o,b ∉ ch -> s.heap.get? b = some o -> ∃ o',h'.get? b = some o')
  (fS:∀ b xs,H b = some (.tup xs) -> H' b = some (.tup xs)) (fL:∀ b o u,H b = some (.eM o u) -> H' b = some (.eM o u)) (fT:∀ b ps,H b = some (.so ps) -> ∃ more,H' b = some (.so (ps ++ more)))
  (ns:∀ m,s.heap.Ns X.env.locals m -> h'.Ns X.env.locals m) (aS:Fh X.prog X.w H' h') (hg:AllBare g') :
  Ai X pins σ H' { s with heap:=h',gens:=g',drawn:=d',toks:=t' }:=by
 have GK:∀ b o,X.s₀.heap.get? b = some o -> b ≠ X.env.locals:=fun b o e=>Nat.ne_of_lt (Nat.lt_of_lt_of_le (Heap.lt_size e) I.ok.above)
 have QM:∀ b o,X.s₀.heap.get? b = some o -> b ∉ X.ex -> b ∉ ch:=fun b o e hx hb=>by
  rcases (iL b hb).1 with z | z
  ·exact hx z
  ·exact absurd (Nat.lt_of_lt_of_le (Heap.lt_size e) z) (Nat.lt_irrefl _)
 have cellK:∀ x c,X.env.cells.lookup x = some c -> ∀ v,s.heap.IsCell c v -> h'.IsCell c v:=fun x c e v ⟨o,ho,hd⟩=>by
  have HS:c ∉ ch:=fun z=>(iL c z).2.2.1 x c e rfl
  by_cases hc:c ∈ X.fs
  ·obtain ⟨sl,q⟩ := slot c o (I.sJ x c e) hc HS ho (I.dW x c e)
   exact ⟨_,q,hd⟩
  ·exact ⟨o,keep c o (I.sJ x c e) hc HS ho (I.dW x c e),hd⟩
 refine ⟨I.ok,I.os,hg,⟨fun b o e n hb hx=>?_,fun b o e n hb hx=>?_,fun b o e n hx=>?_,fun b o e hx=>?_,fun b xs e=>fS b xs (I.base.fS b xs e),fun b o xs e=>fL b o xs (I.base.fL b o xs e),fun b ps e=>?_⟩,?_,fun x c e=>?_,?_,fun x c e=>?_,fun p hp=>?_,aS,I.len⟩
 ·exact keep b o (GK b o e) hb (QM b o e hx) (I.base.keep b o e n hb hx) (I.base.free b o e n hx)
 ·obtain ⟨sl,e1⟩ := I.base.slot b o e n hb hx
  obtain ⟨HQ,e2⟩ := slot b _ (GK b o e) hb (QM b o e hx) e1 (I.base.free b o e n hx)
  exact ⟨HQ,e2⟩
 ·obtain ⟨o',e1⟩ := I.base.there b o e hx
  exact free b o' (QM b o e hx) e1 (I.base.free b o e n hx)
 ·obtain ⟨o',e1⟩ := I.base.there b o e hx
  exact there b o' (QM b o e hx) e1
 ·obtain ⟨m1,e1⟩ := I.base.fT b ps e
  obtain ⟨m2,e2⟩ := fT b _ e1
  exact ⟨m1 ++ m2,by rw [e2,Array.append_assoc]⟩
 ·obtain ⟨m,hn,hl⟩ := I.loc
  refine ⟨m,ns m hn,fun i x v e1 e2 e3=>?_⟩
  obtain ⟨u,r,l⟩ := hl i x v e1 e2 e3
  refine ⟨u,r,?_⟩
  rcases l with l | ⟨k,c,e,z⟩
  ·exact .inl l
  ·exact .inr ⟨k,c,e,cellK x c e _ z⟩
 ·obtain ⟨v,z⟩ := I.cell x c e
  exact ⟨v,cellK x c e v z⟩
 ·obtain ⟨m,⟨o,_,_,ho,_⟩,_⟩ := I.loc
  exact free _ o (fun z=>(iL _ z).2.1 rfl) ho I.free
 ·obtain ⟨v,o,ho,hd⟩ := I.cell x c e
  exact free c o (fun z=>(iL c z).2.2.1 x c e rfl) ho (I.dW x c e)
 ·obtain ⟨e,n,ne,nf,d⟩ := I.pin p hp
  have HS:p.1 ∉ ch:=fun z=>(iL p.1 z).2.2.2 p hp rfl
  exact ⟨keep p.1 p.2 ne nf HS e n,free p.1 p.2 HS e n,ne,nf,d⟩
theorem Ai.un {t':Nat} (I:Ai X pins σ H s) (u:Un X.fs [] H H' s.heap h') (aS:Fh X.prog X.w H' h'):Ai X pins σ H' { s with heap:=h',toks:=t' }:=by
 obtain ⟨m,⟨o,es,ep,ho,r⟩,_⟩ := id I.loc
 obtain ⟨sl,hL⟩ := u.any ho I.free (by simp)
 exact I.step (g':=s.gens) (d':=s.drawn) (ch:=[]) (fun _ z=>nomatch z) (fun b o _ hb _ e n=>u.keep b o e n hb (by simp)) (fun b o _ hb _ e n=>u.slot b o e n hb (by simp)) (fun b o _ e n=>u.free b o e n (by simp)) (fun b o _ e=>u.there b o e (by simp)) u.fS u.fL u.fT (fun m' hm=>by
  obtain ⟨o',sL,sM,oN,r'⟩ := hm
  rw [ho] at oN; cases oN
  exact ⟨_,sL,sM,hL,r'⟩) aS I.bare
theorem Ai.call {g' : Array GenState} {t' : Nat} {d' : Drawn} {ch : List Addr} (I : Ai X pins σ H s) (u : Un (gR X.stack) ch H H' s.heap h') (aS : Fh X.prog X.w H' h') (hg : AllBare g')
  (iL:∀ b ∈ ch,(b ∈ X.ex \/ X.s₀.heap.objs.size <= b) /\ b ≠ X.env.locals /\ (∀ x c,X.env.cells.lookup x = some c -> c ≠ b) /\ ∀ p ∈ X.pn ++ pins,p.1 ≠ b) :
  Ai X pins σ H' { s with heap:=h',gens:=g',drawn:=d',toks:=t' }:=by
 obtain ⟨m,⟨o,es,ep,ho,r⟩,_⟩ := id I.loc
 obtain ⟨sl,hL⟩ := u.any ho I.free fun z=>(iL _ z).2.1 rfl
 exact I.step (ch:=ch) iL (fun b o hL hb hc e n=>u.keep b o e n (fun z=>(List.mem_cons.mp (I.mH b z)).elim hL hb) hc) (fun b o _ _ hc e n=>u.any e n hc) (fun b o hc e n=>u.free b o e n hc) (fun b o hc e=>u.there b o e hc) u.fS u.fL u.fT (fun m' hm=>by
  obtain ⟨o',sL,sM,oN,r'⟩ := hm
  rw [ho] at oN; cases oN
  exact ⟨_,sL,sM,hL,r'⟩) aS hg
theorem Ai.turned {t' : Nat} {it : Addr} (I : Ai X pins σ H s) (k : ∀ b o, b ≠ it -> s.heap.get? b = some o -> h'.get? b = some o) (hn : H it = none) (hL : it ≠ X.env.locals)
  (h1:it ∈ X.ex \/ X.s₀.heap.objs.size <= it) (h2:∀ x c,X.env.cells.lookup x = some c -> c ≠ it) (h3:∀ p ∈ X.pn ++ pins,p.1 ≠ it):Ai X pins σ H { s with heap:=h',toks:=t' }:=by
 have nit:∀ b u,H b = some u -> b ≠ it:=fun b u e z=>by rw [z,hn] at e; cases e
 refine I.step (g':=s.gens) (d':=s.drawn) (ch:=[it]) (fun b hb=>?_) (fun b o _ _ hc e _=>k b o (fun z=>hc (by simp [z])) e) (fun b o _ _ hc e _=>⟨o.slots,k b o (fun z=>hc (by simp [z])) e⟩) (fun _ _ _ _ n=>n)
  (fun b o hc e=>⟨o,k b o (fun z=>hc (by simp [z])) e⟩) (fun _ _ e=>e) (fun _ _ _ e=>e) (fun b ps e=>⟨#[],by rw [e]; simp⟩) (fun m hm=>?_) (fun b u e=>?_) I.bare
 ·have e:b = it:=by simpa using hb
  subst e
  exact ⟨h1,hL,h2,h3⟩
 ·obtain ⟨o,es,ep,ho,r⟩ := hm
  exact ⟨o,es,ep,k _ o (Ne.symm hL) ho,r⟩
 ·refine (I.aS b u e).gQ (fun c v hc q=>k c v ?_ q) (fun _ q=>q) fun _ _ q=>q
  rcases hc with z | z
  ·rw [z]; exact nit b u e
  ·exact nit c _ z
theorem Ai.tok (I:Ai X pins σ H s) (t:Nat):Ai X pins σ H { s with toks:=t }:=I.un (h':=s.heap) (t':=t) Un.refl I.aS
theorem Ai.kept {t':Nat} (I:Ai X pins σ H s) (k:∀ b u,s.heap.get? b = some u -> h'.get? b = some u):Ai X pins σ H { s with heap:=h',toks:=t' }:=I.un (Un.kept k) (I.aS.kept k)
theorem Ai.laid {a : Addr} {o : HO} {t' : Nat} (I : Ai X pins σ H s) (k : ∀ b u, s.heap.get? b = some u -> h'.get? b = some u) (hp : s.heap.objs.size <= a) (new : Bl X.prog X.w (upd H a o) h' a o) :
  Ai X pins σ (upd H a o) { s with heap:=h',toks:=t' }:=I.un (Un.laid k hp (I.aS.fresh hp)) (I.aS.laid k hp new)
theorem Ai.write {x e : Addr} {o : HO} {t' : Nat} (I : Ai X pins σ H s) (mu : gn (H x)) (he : e = x \/ H e = some (.own x)) (k : ∀ b u, b ≠ e -> s.heap.get? b = some u -> h'.get? b = some u) (GI : ∃ u, h'.get? e = some u)
  (new:Bl X.prog X.w (upd H x o) h' x o):Ai X pins σ (upd H x o) { s with heap:=h',toks:=t' }:=I.un (Un.write mu he k GI) (I.aS.write mu he k GI new)
theorem Ai.weak {σ':List (Option V)} (I:Ai X pins σ H s) (hl:σ'.length = σ.length) (w:∀ (i:Nat) v,σ'[i]? = some (some v) -> σ[i]? = some (some v)):Ai X pins σ' H s :=
 ⟨I.ok,I.os,I.bare,I.base,let ⟨m,hn,hl'⟩ := I.loc; ⟨m,hn,fun i x v e1 e2 e3=>hl' i x v e1 (w i v e2) e3⟩,I.cell,I.free,I.dW,I.pin,I.aS,hl.trans I.len⟩
theorem Ai.nJ {lD:List (Addr × Obj)} (I:Ai X pins σ H s) (h:∀ p ∈ lD,s.heap.get? p.1 = some p.2 /\ H p.1 = none /\ p.1 ≠ X.env.locals /\ p.1 ∉ X.fs /\ ∀ v,p.2.data ≠ .cell v):Ai X lD σ H s :=
 ⟨I.ok,I.os,I.bare,I.base,I.loc,I.cell,I.free,I.dW,fun p hp=>(List.mem_append.mp hp).elim (fun z=>I.pin p (List.mem_append_left _ z)) (h p),I.aS,I.len⟩
theorem Kv {N:List Str} (hN:N.Nodup) {i j:Nat} {x:Str} (a:N[i]? = some x) (b:N[j]? = some x):i = j:=by
 obtain ⟨h1,e1⟩ := List.getElem?_eq_some_iff.mp a
 obtain ⟨h2,e2⟩ := List.getElem?_eq_some_iff.mp b
 exact (List.getElem_inj hN).mp (e1.trans e2.symm)
theorem Np {M : Model} {A : Around} {E : Value -> Shared -> Prop} {i : Nat} {x : Str} {v : V} {u : Value} {Q : Unit -> Shared -> Prop} (I : Ai X pins σ H s) (hN : X.N.Nodup) (hi : X.N[i]? = some x) (hx : kb X.env.scope x) (r : B4 v u)
  (h:∀ s',Ai X pins (σ.set i (some v)) H s' -> (∃ a,Heap.SameBut a s.heap s'.heap /\ (a = X.env.locals \/ X.env.cells.lookup x = some a)) -> Q () s') (hf:X.fn x = true \/ X.env.scope.names.lookup x = some .local:=by first | exact .inl rfl | exact .inr rfl | assumption):wpAny M A (storeName X.env x u) Q E s:=by
 obtain ⟨m,hn,hl⟩ := id I.loc
 have SN:(X.env.scope.kind == .class || (X.env.scope.kind == .module && X.env.locals != X.env.globals)) = false:=by rw [I.ok.kind]; rfl
 have hiσ:i < σ.length:=by rw [I.len]; exact (List.getElem?_eq_some_iff.mp hi).1
 have sJ:=I.sJ
 have tracked:∀ {a:Addr} {h':Heap},(∃ o,s.heap.get? a = some o /\ H a = none) -> Heap.SameBut a s.heap h' -> Fh X.prog X.w H h':=fun {a h'} ha hs b ob e=>by
  obtain ⟨_,_,tU⟩ := ha
  refine (I.aS b ob e).gQ (fun c w' hc q=>(hs.2 c ?_).trans q) (fun _ q=>q) fun _ _ q=>q
  rintro rfl
  rcases hc with rfl | hc
  ·rw [tU] at e; cases e
  ·rw [tU] at hc; cases hc
 rcases hx with hk | hk
 ·refine wpAny_storeName_local hk hn (fun h' SO hs=>?_) SN
  obtain ⟨oL,_,_,hoL,_⟩ := id hn
  refine h _ ⟨I.ok,I.os,I.bare,⟨fun b o e n hb hx=>?_,fun b o e n hb hx=>?_,I.base.free,fun b o e hx=>?_,I.base.fS,I.base.fL,I.base.fT⟩,⟨_,SO,fun j y v' e1 e2 e3=>?_⟩,fun y c e=>?_,I.free,I.dW,fun p hp=>?_,tracked ⟨oL,hoL,I.free⟩ hs,by simpa using I.len⟩ ⟨_,hs,.inl rfl⟩
  ·exact (hs.2 b (Nat.ne_of_lt (Nat.lt_of_lt_of_le (Heap.lt_size e) I.ok.above))).trans (I.base.keep b o e n hb hx)
  ·obtain ⟨sl,e1⟩ := I.base.slot b o e n hb hx
   exact ⟨sl,(hs.2 b (Nat.ne_of_lt (Nat.lt_of_lt_of_le (Heap.lt_size e) I.ok.above))).trans e1⟩
  ·obtain ⟨o',e1⟩ := I.base.there b o e hx
   exact ⟨o',(hs.2 b (Nat.ne_of_lt (Nat.lt_of_lt_of_le (Heap.lt_size e) I.ok.above))).trans e1⟩
  ·by_cases hj:j = i
   ·subst hj
    rw [hi] at e1; cases e1
    rw [List.getElem?_set_self hiσ] at e2
    cases e2
    exact ⟨u,r,.inl ⟨hk,by simp⟩⟩
   ·rw [List.getElem?_set_ne (Ne.symm hj)] at e2
    obtain ⟨u',r',q⟩ := hl j y v' e1 e2 e3
    refine ⟨u',r',?_⟩
    rcases q with ⟨k,e⟩ | ⟨k,c,e,z⟩
    ·refine .inl ⟨k,?_⟩
     have:y ≠ x:=fun e=>hj (Kv hN e1 (e ▸ hi))
     simp [this,e]
    ·exact .inr ⟨k,c,e,z.sameBut hs (sJ y c e)⟩
  ·obtain ⟨w',z⟩ := I.cell y c e
   exact ⟨w',z.sameBut hs (sJ y c e)⟩
  ·obtain ⟨e,n,ne,nf,d⟩ := I.pin p hp
   exact ⟨(hs.2 p.1 ne).trans e,n,ne,nf,d⟩
 ·have SQ : X.fn x = true := by
   rcases hf with z | z
   ·exact z
   ·rw [z] at hk; cases hk
  obtain ⟨c,hc⟩ := I.ok.has x (.inl hk)
  obtain ⟨w',z⟩ := I.cell x c hc
  refine wpAny_storeName_cell I.ok.kind hk hc z (fun h' oP hs=>?_)
  obtain ⟨oc,hoc,SR⟩ := id z
  refine h { s with heap:=h' } ⟨I.ok,I.os,I.bare,⟨fun b o e n hb hx=>?_,fun b o e n hb hx=>?_,I.base.free,fun b o e hx=>?_,I.base.fS,I.base.fL,I.base.fT⟩,⟨m,hn.sameBut hs (Ne.symm (sJ x c hc)),fun j y v' e1 e2 e3=>?_⟩,fun y c' e=>?_,I.free,I.dW,fun p hp=>?_,tracked ⟨oc,hoc,I.dW x c hc⟩ hs,by simpa using I.len⟩ ⟨c,hs,.inr hc⟩
  ·exact (hs.2 b (Nat.ne_of_lt (Nat.lt_of_lt_of_le (Heap.lt_size e) (I.ok.vW x c SQ hc)))).trans (I.base.keep b o e n hb hx)
  ·obtain ⟨sl,e1⟩ := I.base.slot b o e n hb hx
   exact ⟨sl,(hs.2 b (Nat.ne_of_lt (Nat.lt_of_lt_of_le (Heap.lt_size e) (I.ok.vW x c SQ hc)))).trans e1⟩
  ·obtain ⟨o',e1⟩ := I.base.there b o e hx
   exact ⟨o',(hs.2 b (Nat.ne_of_lt (Nat.lt_of_lt_of_le (Heap.lt_size e) (I.ok.vW x c SQ hc)))).trans e1⟩
  ·by_cases hj:j = i
   ·subst hj
    rw [hi] at e1; cases e1
    rw [List.getElem?_set_self hiσ] at e2
    cases e2
    exact ⟨u,r,.inr ⟨.inl hk,c,hc,oP⟩⟩
   ·rw [List.getElem?_set_ne (Ne.symm hj)] at e2
    obtain ⟨u',r',q⟩ := hl j y v' e1 e2 e3
    refine ⟨u',r',?_⟩
    rcases q with q | ⟨k,c',e,z'⟩
    ·exact .inl q
    ·refine .inr ⟨k,c',e,z'.sameBut hs ?_⟩
     rintro rfl
     exact hj (Kv hN e1 (I.ok.inj _ _ _ e hc ▸ hi))
  ·by_cases hcc:c' = c
   ·subst hcc; exact ⟨_,oP⟩
   ·obtain ⟨w2,z2⟩ := I.cell y c' e
    exact ⟨w2,z2.sameBut hs hcc⟩
  ·obtain ⟨e,n,ne,nf,d⟩ := I.pin p hp
   refine ⟨(hs.2 p.1 ?_).trans e,n,ne,nf,d⟩
   intro q
   rw [q,hoc] at e
   have q':oc = p.2:=Option.some.inj e
   exact d w' (by rw [<- q']; exact SR)
theorem Lr {M : Model} {A : Around} {E : Value -> Shared -> Prop} {i : Nat} {x : Str} {v : V} {u : Value} {Q : Unit -> Shared -> Prop} (I : Ai X pins σ H s) (hN : X.N.Nodup) (hi : X.N[i]? = some x) (hx : kb X.env.scope x) (r : B4 v u)
  (h:∀ s',Ai X pins (σ.set i (some v)) H s' -> Q () s') (hf:X.fn x = true \/ X.env.scope.names.lookup x = some .local:=by first | exact .inl rfl | exact .inr rfl | assumption):wpAny M A (storeName X.env x u) Q E s :=
 Np I hN hi hx r (fun s' I' _=>h s' I') hf
theorem Ai.tV {s' : Shared} {ch : List Addr} (I : Ai X pins σ H s) (ho : s'.os = s.os) (u : Un (gR X.stack) ch H H' s.heap s'.heap) (aS : Fh X.prog X.w H' s'.heap) (hg : AllBare s'.gens)
  (iL:∀ b ∈ ch,(b ∈ X.ex \/ X.s₀.heap.objs.size <= b) /\ b ≠ X.env.locals /\ (∀ x c,X.env.cells.lookup x = some c -> c ≠ b) /\ ∀ p ∈ X.pn ++ pins,p.1 ≠ b):Ai X pins σ H' s':=by
 obtain ⟨h',g',d',t',o'⟩ := s'
 have e:o' = s.os:=ho
 subst e
 exact I.call (g':=g') (t':=t') (d':=d') u aS hg iL
end
abbrev XK:=Value -> Option Addr -> Hp -> Prop
abbrev St:=List (Option V)
abbrev VK:=V -> Hp -> Prop
abbrev TE:=St -> Hp -> VK -> Prop
abbrev TT:=St -> Hp -> (Bool -> Hp -> Prop) -> Prop
abbrev TA:=St -> Hp -> (List V -> Hp -> Prop) -> Prop
set_option genInjectivity false in
set_option genSizeOf false in
structure Hq where
 nx:St -> Hp -> Prop
 rt:VK
 bk:St -> Hp -> Prop:=fun _ _=>False
 ct:St -> Hp -> Prop:=fun _ _=>False
abbrev TS:=Hq -> St -> Hp -> Prop
def EP (X:Cx) (pins:List (Addr × Obj)) (σ:St) (Q:VK) (u:Value) (s':Shared):Prop := ∃ v H',Ai X pins σ H' s' /\ B4 v u /\ Q v H'
def TP (X:Cx) (pins:List (Addr × Obj)) (σ:St) (Q:Bool -> Hp -> Prop) (b:Bool) (s':Shared):Prop := ∃ H',Ai X pins σ H' s' /\ Q b H'
def AP (X:Cx) (pins:List (Addr × Obj)) (σ:St) (Q:List V -> Hp -> Prop) (us:List Value) (s':Shared):Prop := ∃ vs H',Ai X pins σ H' s' /\ B2 vs us /\ Q vs H'
def SP (X:Cx) (pins:List (Addr × Obj)) (D:Hq) (f:Flow) (s':Shared):Prop :=
 match f with
 | .next=>∃ σ' H',Ai X pins σ' H' s' /\ D.nx σ' H'
 | .brk=>∃ σ' H',Ai X pins σ' H' s' /\ D.bk σ' H'
 | .cont=>∃ σ' H',Ai X pins σ' H' s' /\ D.ct σ' H'
 | .ret u=>∃ v σ' H',Ai X pins σ' H' s' /\ B4 v u /\ D.rt v H'
def PE (X:Cx) (e:Expr) (t:TE):Prop :=
 ∀ (pins:List (Addr × Obj)) (s:Shared) (σ:St) (H:Hp) (Q:VK),Ai X pins σ H s -> t σ H Q -> wpAny (model X.prog X.w) X.A (eval e X.env) (EP X pins σ Q) X.xe s
def PT (X:Cx) (e:Expr) (t:TT):Prop :=
 ∀ (pins:List (Addr × Obj)) (s:Shared) (σ:St) (H:Hp) (Q:Bool -> Hp -> Prop),Ai X pins σ H s -> t σ H Q -> wpAny (model X.prog X.w) X.A (isTrue e X.env (eval e X.env)) (TP X pins σ Q) X.xe s
def PW (X:Cx) (e:Expr) (t:TT):Prop :=
 ∀ (whole:Sem Value) (pins:List (Addr × Obj)) (s:Shared) (σ:St) (H:Hp) (Q:Bool -> Hp -> Prop),Ai X pins σ H s -> t σ H Q -> wpAny (model X.prog X.w) X.A (isTrue e X.env whole) (TP X pins σ Q) X.xe s
theorem PW.pt {X:Cx} {e:Expr} {t:TT} (h:PW X e t):PT X e t:=h _
def PA (X:Cx) (es:List Expr) (t:TA):Prop :=
 ∀ (pos:Pos) (pins:List (Addr × Obj)) (s:Shared) (σ:St) (H:Hp) (Q:List V -> Hp -> Prop),Ai X pins σ H s -> t σ H Q -> wpAny (model X.prog X.w) X.A (spliced (backTo pos (starEach es X.env))) (AP X pins σ Q) X.xe s
def PS (X:Cx) (st:Stmt) (t:TS):Prop :=
 ∀ (pins:List (Addr × Obj)) (s:Shared) (σ:St) (H:Hp) (D:Hq),Ai X pins σ H s -> t D σ H -> wpAny (model X.prog X.w) X.A (exec st X.env) (SP X pins D) X.xe s
def M5 (X:Cx) (st:List Stmt) (t:TS):Prop :=
 ∀ (pins:List (Addr × Obj)) (s:Shared) (σ:St) (H:Hp) (D:Hq),Ai X pins σ H s -> t D σ H -> wpAny (model X.prog X.w) X.A (execs st X.env) (SP X pins D) X.xe s
theorem Bv {α:Type} {t:Sem α} {Q Q':α -> Shared -> Prop} {M:Model} {A:Around} {E:Value -> Shared -> Prop} {s:Shared} (h:wpAny M A t Q E s) (hQ:∀ a s,Q a s -> Q' a s):wpAny M A t Q' E s:=wpAny_mono h hQ fun _ _ x=>x
section
variable {X:Cx}
def k9 (i:Nat):TE:=fun σ H Q=>∃ v,σ[i]? = some (some v) /\ Q v H
def tC (v:V):TE:=fun _ H Q=>Q v H
theorem dn {i:Nat} {x:Str} {pos:Pos} (hN:X.N[i]? = some x) (hv:l5 X.env.scope x) (hd:(x == ("__debug__" : Str)) = false:=by decide) (oY:(x == ("__classdict__" : Str)) = false:=by decide):PE X (.Name x pos) (k9 i):=by
 intro pins s σ H Q I h
 obtain ⟨v,e,h⟩ := h
 obtain ⟨m,hn,hl⟩ := I.loc
 obtain ⟨u,r,l⟩ := hl i x v hN e hv
 have fin:EP X pins σ Q u s:=⟨v,H,I,r,h⟩
 rcases l with ⟨hk,hm⟩ | ⟨hk,c,hc,tW⟩
 ·exact wpAny_Name (wpAny_loadName_local I.ok.kind hk hn hm fin) hd
 ·rcases hk with hk | hk
  ·exact wpAny_Name (wpAny_loadName_cell I.ok.kind hk hc tW fin) hd
  ·exact wpAny_Name (wpAny_loadName_free I.ok.kind hk hc tW fin oY) hd
theorem A7 {i j pos}:PE X (.Constant (.int i) j pos) (tC (.int i)):=fun _ _ _ H _ I h=>wpAny_Constant_int ⟨.int i,H,I.tok _,⟨_,rfl⟩,h⟩
theorem Fm {b j pos}:PE X (.Constant (.bool b) j pos) (tC (.bl b)):=fun _ _ _ H _ I h=>Constant_bool ⟨.bl b,H,I,rfl,h⟩
theorem C5 {j pos}:PE X (.Constant .none j pos) (tC .cZ):=fun _ _ _ H _ I h=>Constant_none ⟨.cZ,H,I,rfl,h⟩
theorem Ab {x j pos}:PE X (.Constant (.str x) j pos) (tC (.str x)):=fun _ _ _ H _ I h=>Calls.Constant_str ⟨.str x,H,I.tok _,⟨_,rfl⟩,h⟩
def Gl (X:Cx) (x:Str):Prop:=X.env.kindOf x = some .globalImplicit
theorem Gv {E : Value -> Shared -> Prop} {pins : List (Addr × Obj)} {s : Shared} {σ : St} {H : Hp} {x : Str} {u : Value} {pos : Pos} {Q : Value -> Shared -> Prop} (I : Ai X pins σ H s) (hg : Gl X x) (hm : X.mg x = some u) (h : Q u s)
  (hd:(x == ("__debug__" : Str)) = false:=by decide):wpAny (model X.prog X.w) X.A (eval (.Name x pos) X.env) Q E s :=
 Calls.Name_function_global I.ok.kind hg (Calls.loadGlobal_global (by rw [I.ok.glob]; exact I.mod.glob.keeps I.bk) hm h) hd
theorem Ib {E : Value -> Shared -> Prop} {pins : List (Addr × Obj)} {s : Shared} {σ : St} {H : Hp} {x : Str} {u : Value} {pos : Pos} {Q : Value -> Shared -> Prop} (I : Ai X pins σ H s) (hg : Gl X x) (hm : X.mg x = none) (hv : bootBuiltins x = some u) (h : Q u s)
  (hn:x ≠ "__name__" := by decide) (hd:(x == ("__debug__" : Str)) = false:=by decide):wpAny (model X.prog X.w) X.A (eval (.Name x pos) X.env) Q E s:=by
 obtain ⟨mb,h1,h2⟩ := I.mod.blt
 exact Calls.Name_function_global I.ok.kind hg (Calls.loadGlobal_builtin (by rw [I.ok.glob]; exact I.mod.glob.keeps I.bk) hm (by rw [I.ok.blt]; exact h1.keeps I.bk) ((h2 x hn).trans hv) h) hd
theorem Br {x:Str} {v:V} {u:Value} {pos:Pos} (hg:Gl X x) (hm:X.mg x = some u) (r:B4 v u) (hd:(x == ("__debug__" : Str)) = false:=by decide):PE X (.Name x pos) (tC v) :=
 fun _ _ _ H _ I h=>Gv I hg hm ⟨v,H,I,r,h⟩ hd
theorem Za {x:Str} {v:V} {u:Value} {pos:Pos} (hg:Gl X x) (hm:X.mg x = none) (hv:bootBuiltins x = some u) (r:B4 v u) (hn:x ≠ "__name__" := by decide) (hd:(x == ("__debug__" : Str)) = false:=by decide):PE X (.Name x pos) (tC v) :=
 fun _ _ _ H _ I h=>Ib I hg hm hv ⟨v,H,I,r,h⟩ hn hd
variable {a b:Expr} {ta tb:TE} {pos:Pos}
def PC (X:Cx) (op:CmpOp) (a b:Expr) (t:TE):Prop :=
 ∀ (pins:List (Addr × Obj)) (s:Shared) (σ:St) (H:Hp) (Q:VK),Ai X pins σ H s -> t σ H Q ->
  wpAny (model X.prog X.w) X.A (eval a X.env) (fun v s₁=>wpAny (model X.prog X.w) X.A (eval b X.env) (fun u s₂=>wpAny (model X.prog X.w) X.A (compareOp op v u) (EP X pins σ Q) X.xe s₂) X.xe s₁) X.xe s
def tB (t:TE):TT:=fun σ H Q=>t σ H fun x H1=>∃ c,x = .bl c /\ Q c H1
theorem Ih {op:CmpOp} {t:TE} (h:PC X op a b t) (h1:behindInMarks op b = false:=by first | exact HU _ (by decide) (by decide) | rfl):PT X (.Compare a [op] [b] pos) (tB t):=by
 intro pins s σ H Q I hw
 refine wpAny_isTrue_Compare1 (Bv (h pins s σ H _ I hw) fun v s1 h1=>Bv h1 fun u s2 h2=>Bv h2 fun c s3 ⟨x,H1,I1,r1,q1⟩=>?_) h1
 obtain ⟨d,rfl,q⟩ := q1
 cases r1
 exact wpAny_truthy_bool ⟨H1,I1,q⟩
theorem Bj {e:Expr} {t:TE} (h:PE X e t) (he:∀ whole,isTrue e X.env whole = (do let v <- whole; standAt e.pos; holding [v] (truthy v)):=by intro _; rfl):PT X e (tB t):=by
 intro pins s σ H Q I hw
 refine isTrue_plain (Bv (h pins s σ H _ I hw) fun v s1 ⟨x,H1,I1,r1,q1⟩=>?_) (he _)
 obtain ⟨d,rfl,q⟩ := q1
 cases r1
 exact wpAny_truthy_bool ⟨H1,I1,q⟩
variable {tA tX:TT} {rest:List Expr}
def md (t:TT):TT:=fun σ H Q=>t σ H fun c H1=>Q (!c) H1
theorem Fx (ha:PT X a tA):PW X (.BoolOp .And [a] pos) tA:=by
 intro wh pins s σ H Q I h
 refine isTrue_and (Bv (ha pins s σ H Q I h) fun c s1 e=>?_)
 cases c with
 | true=>exact isTrue_and_nil e
 | false=>exact e
theorem On (ha:PT X a tA):PW X (.BoolOp .Or [a] pos) tA:=by
 intro wh pins s σ H Q I h
 refine isTrue_or (Bv (ha pins s σ H Q I h) fun c s1 e=>?_)
 cases c with
 | false=>exact isTrue_or_nil e
 | true=>exact e
theorem D9 (ha:PT X a tA):PT X (.UnaryOp .Not a pos) (md tA):=by
 intro pins s σ H Q I h
 exact isTrue_not (ha pins s σ H (fun c H1=>Q (!c) H1) I h)
theorem Kz {op} {t:TE} (h:PE X a t):PE X (.BoolOp op [a] pos) t:=fun pins s σ H Q I hw=>BoolOp_one (h pins s σ H Q I hw)
def nc (t:TT) (ta tb:TE):TE:=fun σ H Q=>t σ H fun c H1=>if c = true then ta σ H1 Q else tb σ H1 Q
theorem Qn {c:Expr} (hc:PT X c tA) (ha:PE X a ta) (hb:PE X b tb):PE X (.IfExp c a b pos) (nc tA ta tb):=by
 intro pins s σ H Q I h
 refine wpAny_IfExp (Bv (hc pins s σ H _ I h) fun d s1 dG=>?_)
 obtain ⟨H1,I1,q1⟩ := dG
 cases d with
 | true=>exact ha pins s1 σ H1 Q I1 q1
 | false=>exact hb pins s1 σ H1 Q I1 q1
end
def B5 (K:PySem.W.Frag) (H:Hp) (a:Addr) (xs:List V):Prop :=
 Rd H a (.lst xs) \/
  ∃ (o:Obj) (aU:Array Value) (n:Nat),K.lookup a = some o /\ o.cls = .type "list" /\ o.dict = none /\ o.data = .seq aU n /\ aU.size <= sizeLine /\ B2 xs aU.toList
def Bw (K:PySem.W.Frag) (H:Hp) (a:Addr) (xs:List V):Prop :=
 Rd H a (.tup xs) \/
  ∃ (o:Obj) (aU:Array Value) (n:Nat),K.lookup a = some o /\ o.cls = .type "tuple" /\ o.data = .seq aU n /\ aU.size <= sizeLine /\ B2 xs aU.toList
def l6:Value -> Option V
 | .none=>some .cZ
 | .bool b=>some (.bl b)
 | .int i _=>some (.int i)
 | .str x _=>some (.str x)
 | .bytes b _=>some (.nI b)
 | .float b _=>some (.vU b)
 | .ref a=>some (.ref a)
 | .type n=>some (.ty n)
 | _=>none
theorem B4.abs {x:V} {u:Value} (r:B4 x u):l6 u = some x:=by
 cases x with
 | cZ=>cases r; rfl
 | bl _=>cases r; rfl
 | int _=>obtain ⟨t,rfl⟩ := r; rfl
 | str _=>obtain ⟨t,rfl⟩ := r; rfl
 | nI _=>obtain ⟨t,rfl⟩ := r; rfl
 | vU _=>obtain ⟨t,rfl⟩ := r; rfl
 | ref _=>cases r; rfl
 | ty _=>cases r; rfl
theorem B4.inj {x y:V} {u:Value} (r:B4 x u) (q:B4 y u):x = y:=Option.some.inj (r.abs.symm.trans q.abs)
theorem B2.inj {xs ys:List V} {us:List Value} (h:B2 xs us) (g:B2 ys us):xs = ys:=by
 induction h generalizing ys with
 | nil =>
  cases g
  rfl
 | cons r t ih =>
  cases g with
  | cons r' t'=>rw [r.inj r',ih t']
section
variable {X:Cx} {pins:List (Addr × Obj)} {σ:St} {H:Hp} {s:Shared} {a:Addr} {xs ys:List V}
theorem B5.of {K:PySem.W.Frag} (h:H a = some (.lst xs)):B5 K H a xs := .inl (.inl h)
theorem Bw.of {K:PySem.W.Frag} (h:H a = some (.tup xs)):Bw K H a xs := .inl (.inl h)
theorem Ai.list (I:Ai X pins σ H s) (h:B5 X.K H a xs):∃ aU:List Value,B2 xs aU /\ PlainL s.heap a aU.toArray /\ xs.length <= sizeLine:=by
 rcases h with h | ⟨o,aU,n,hk,hc,hd,hs,hz,r⟩
 ·obtain ⟨z,aU,n,r,e⟩ := h.ok I.aS
  exact ⟨aU,r,⟨_,n,e,rfl,rfl,rfl⟩,z⟩
 ·refine ⟨aU.toList,r,⟨o,n,I.fQ a o hk,hc,hd,by simpa using hs⟩,?_⟩
  have e:=r.length
  simp only [Array.length_toList] at e
  omega
theorem Ai.tuple (I:Ai X pins σ H s) (h:Bw X.K H a xs):∃ aU:List Value,B2 xs aU /\ IsTup s.heap a aU.toArray /\ xs.length <= sizeLine:=by
 rcases h with h | ⟨o,aU,n,hk,hc,hs,hz,r⟩
 ·obtain ⟨z,aU,r,p⟩ := h.ok I.aS
  exact ⟨aU,r,p,z.1⟩
 ·refine ⟨aU.toList,r,⟨o,I.fQ a o hk,hc,n,by simpa using hs⟩,?_⟩
  have e:=r.length
  simp only [Array.length_toList] at e
  omega
theorem Ai.lF (I:Ai X pins σ H s) (h:B5 X.K H a xs) (h':B5 X.K H a ys):xs = ys:=by
 obtain ⟨aU,r,⟨o,n,e,_,_,d⟩,_⟩ := I.list h
 obtain ⟨its',r',⟨o',n',e',_,_,d'⟩,_⟩ := I.list h'
 rw [e] at e'; cases e'
 rw [d] at d'
 injection d' with d1 _
 have:aU = its':=by simpa using congrArg Array.toList d1
 subst this
 exact r.inj r'
theorem Ai.jR (I:Ai X pins σ H s) (h:Bw X.K H a xs) (h':Bw X.K H a ys):xs = ys:=by
 obtain ⟨aU,r,⟨o,e,_,n,d⟩,_⟩ := I.tuple h
 obtain ⟨its',r',⟨o',e',_,n',d'⟩,_⟩ := I.tuple h'
 rw [e] at e'; cases e'
 rw [d] at d'
 injection d' with d1 _
 have:aU = its':=by simpa using congrArg Array.toList d1
 subst this
 exact r.inj r'
end
abbrev Cx.jI (X:Cx) (E:Value -> Shared -> Prop):Cx:={ X with xe:=E }
abbrev Cx.QN (X:Cx):Cx:=X.jI fun _ _=>False
theorem Cx.Ok.jI {X:Cx} (ok:X.Ok) (E:Value -> Shared -> Prop):(X.jI E).Ok :=
 ⟨ok.mod,ok.kind,ok.glob,ok.blt,ok.above,ok.inj,ok.has,ok.vW,ok.hd,ok.frames,ok.GJ,ok.HR,ok.bs,ok.oX,ok.mF,ok.mG,ok.fU,ok.sI⟩
theorem Cx.Ok.fD {X:Cx} {E:Value -> Shared -> Prop} (ok:(X.jI E).Ok):X.Ok :=
 ⟨ok.mod,ok.kind,ok.glob,ok.blt,ok.above,ok.inj,ok.has,ok.vW,ok.hd,ok.frames,ok.GJ,ok.HR,ok.bs,ok.oX,ok.mF,ok.mG,ok.fU,ok.sI⟩
section
variable {X:Cx} {pins:List (Addr × Obj)} {σ:St} {H:Hp} {s:Shared} {E:Value -> Shared -> Prop}
theorem Ai.jI (I:Ai X pins σ H s) (E:Value -> Shared -> Prop):Ai (X.jI E) pins σ H s:=⟨I.ok.jI E,I.os,I.bare,I.base,I.loc,I.cell,I.free,I.dW,I.pin,I.aS,I.len⟩
theorem Ai.fD (I:Ai (X.jI E) pins σ H s):Ai X pins σ H s:=⟨I.ok.fD,I.os,I.bare,I.base,I.loc,I.cell,I.free,I.dW,I.pin,I.aS,I.len⟩
theorem SP.fD {D:Hq} {f:Flow} {s':Shared} (h:SP (X.jI E) pins D f s'):SP X pins D f s':=by
 cases f with
 | next=>obtain ⟨σ',H',I,q⟩ := h; exact ⟨σ',H',I.fD,q⟩
 | brk=>obtain ⟨σ',H',I,q⟩ := h; exact ⟨σ',H',I.fD,q⟩
 | cont=>obtain ⟨σ',H',I,q⟩ := h; exact ⟨σ',H',I.fD,q⟩
 | ret u=>obtain ⟨v,σ',H',I,r,q⟩ := h; exact ⟨v,σ',H',I.fD,r,q⟩
theorem M5.QN {st:List Stmt} {t:TS} (h:M5 X.QN st t):M5 X st t:=fun pins s σ H D I hw =>
 wpAny_mono (h pins s σ H D (I.jI _) hw) (fun _ _ q=>q.fD) fun _ _ z=>False.elim z
end
section
variable {X:Cx} {st:Stmt} {rest:List Stmt} {t u:TS} {e:Expr} {te:TE} {pos:Pos}
def jw:TS:=fun D σ H=>D.nx σ H
def mj (t u:TS):TS:=fun D σ H=>t { D with nx:=u D } σ H
theorem Ae:M5 X [] jw:=fun _ _ σ H _ I h=>wpAny_execs_nil ⟨σ,H,I,h⟩
theorem A2 (h1:PS X st t) (h2:M5 X rest u):M5 X (st :: rest) (mj t u):=by
 intro pins s σ H D I h
 refine wpAny_execs_cons (Bv (h1 pins s σ H { D with nx:=u D } I h) fun f s1 q=>?_)
 cases f with
 | next =>
  obtain ⟨σ',H',I',q⟩ := q
  exact h2 pins s1 σ' H' D I' q
 | ret v=>exact q
 | brk=>exact q
 | cont=>exact q
theorem A5 (h1:PS X st t):M5 X [st] t:=by
 intro pins s σ H D I h
 refine wpAny_execs_cons (Bv (h1 pins s σ H D I h) fun f s1 q=>?_)
 cases f with
 | next=>exact wpAny_execs_nil q
 | ret v=>exact q
 | brk=>exact q
 | cont=>exact q
theorem Ai.quiet {pins:List (Addr × Obj)} {σ:St} {H:Hp} {s:Shared} (I:Ai X pins σ H s):interactive X.env = false:=by simp [interactive,I.ok.kind]
def ju (te:TE):TS:=fun D σ H=>te σ H fun _ H1=>D.nx σ H1
theorem Cf (he:PE X e te) (hs:swapsWith e none pos.line X.env = pure false:=by rfl):PS X (.Expr e pos) (ju te):=by
 intro pins s σ H D I h
 exact wpAny_Expr_any (Bv (he pins s σ H _ I h) fun v s1 ⟨x,H1,I1,r1,q1⟩=>⟨σ,H1,I1,q1⟩) I.quiet hs
def mi (te:TE):TS:=fun D σ H=>te σ H D.rt
theorem Af (he:PE X e te):PS X (.Return (some e) pos) (mi te):=by
 intro pins s σ H D I h
 exact wpAny_Return_some (Bv (he pins s σ H _ I h) fun v s1 ⟨x,H1,I1,r1,q1⟩=>⟨x,σ,H1,I1,r1,q1⟩)
def m9 (c:TT) (t u:TS):TS:=fun D σ H=>c σ H fun b H1=>if b = true then t D σ H1 else u D σ H1
theorem B6 {c:Expr} {a b:List Stmt} {tc:TT} (hc:PT X c tc) (ha:M5 X a t) (hb:M5 X b u):PS X (.If c a b pos) (m9 tc t u):=by
 intro pins s σ H D I h
 refine wpAny_If (Bv (hc pins s σ H _ I h) fun d s1 dG=>?_)
 obtain ⟨H1,I1,q1⟩ := dG
 cases d with
 | true=>exact ha pins s1 σ H1 D I1 q1
 | false=>exact hb pins s1 σ H1 D I1 q1
def fz:TS:=fun _ _ _=>False
theorem E4:PS X st fz:=fun _ _ _ _ _ _ h=>h.elim
end
abbrev TG:=V -> St -> Hp -> (St -> Hp -> Prop) -> Prop
abbrev Zq:=List V -> St -> Hp -> (St -> Hp -> Prop) -> Prop
def PG (X:Cx) (target:Expr) (t:TG):Prop :=
 ∀ (pins:List (Addr × Obj)) (s:Shared) (σ:St) (H:Hp) (v:V) (u:Value) (Q:St -> Hp -> Prop),Ai X pins σ H s -> B4 v u -> t v σ H Q ->
  wpAny (model X.prog X.w) X.A (assign target X.env u) (fun _ s'=>∃ σ' H',Ai X pins σ' H' s' /\ Q σ' H') X.xe s
def gr (X:Cx) (ts:List Expr) (t:Zq):Prop :=
 ∀ (pins:List (Addr × Obj)) (s:Shared) (σ:St) (H:Hp) (vs:List V) (us:List Value) (Q:St -> Hp -> Prop),Ai X pins σ H s -> B2 vs us -> t vs σ H Q ->
  wpAny (model X.prog X.w) X.A (assignInOrder ((assignEach ts X.env).map (·.2)) us) (fun _ s'=>∃ σ' H',Ai X pins σ' H' s' /\ Q σ' H') X.xe s
abbrev ai:=V -> V -> V -> Hp -> (Hp -> Prop) -> Prop
def gu (X:Cx) (t:ai):Prop :=
 ∀ (pins:List (Addr × Obj)) (s:Shared) (σ:St) (H:Hp) (o i v:V) (ov iv u:Value) (Q:Hp -> Prop),Ai X pins σ H s -> B4 o ov -> B4 i iv -> B4 v u -> t o i v H Q ->
  wpAny (model X.prog X.w) X.A (setItem ov iv u) (fun _ s'=>∃ H',Ai X pins σ H' s' /\ Q H') X.xe s
section
variable {X:Cx} {pos:Pos}
def Gq (i:Nat):TG:=fun v σ H Q=>Q (σ.set i (some v)) H
theorem Av {i:Nat} {x:Str} (hN:X.N.Nodup) (hi:X.N[i]? = some x) (hx:kb X.env.scope x) (hf:X.fn x = true \/ X.env.scope.names.lookup x = some .local:=by first | exact .inl rfl | exact .inr rfl | assumption):PG X (.Name x pos) (Gq i):=by
 intro pins s σ H v u Q I r h
 exact wpAny_assign_Name (Lr I hN hi hx r (fun s' I'=>⟨_,H,I',h⟩) hf)
def h7:Zq:=fun vs σ H Q=>vs = [] /\ Q σ H
def Wm (t:TG) (u:Zq):Zq:=fun vs σ H Q=>∃ v r,vs = v :: r /\ t v σ H fun σ' H'=>u r σ' H' Q
theorem He:gr X [] h7:=by
 intro pins s σ H vs us Q I r h
 obtain ⟨e,h⟩ := h
 subst e
 cases r
 exact assignInOrder_nil ⟨σ,H,I,h⟩
theorem Cy {e : Expr} {es : List Expr} {t : TG} {u : Zq} (h1 : PG X e t) (h2 : gr X es u)
  (hs:(assignEach (e :: es) X.env).map (·.2) = assign e X.env :: (assignEach es X.env).map (·.2):=by rfl):gr X (e :: es) (Wm t u):=by
 intro pins s σ H vs us Q I r h
 obtain ⟨v,vr,e1,h⟩ := h
 subst e1
 cases r with
 | cons r rr =>
  rw [hs]
  refine assignInOrder_cons (Bv (h1 pins s σ H _ _ _ I r h) fun _ s1 dG=>?_)
  obtain ⟨σ1,H1,I1,q1⟩ := dG
  exact h2 pins s1 σ1 H1 _ _ Q I1 rr q1
def ay (K:PySem.W.Frag) (n:Nat) (t:Zq):TG:=fun v σ H Q=>∃ a xs,v = .ref a /\ Bw K H a xs /\ xs.length = n /\ t xs σ H Q
theorem dq {es : List Expr} {k : Nat} {t : Zq} {n : Nat} (hc : X.calm = true) (h : gr X es t)
  (hn:(assignEach es X.env).length = n:=by rfl) (eP:(assignEach es X.env).findIdx? (·.1) = none:=by rfl):PG X (.Tuple es k pos) (ay X.K n t):=by
 intro pins s σ H v u Q I r hw
 obtain ⟨a,xs,e1,hq,hl,hw⟩ := hw
 subst e1
 cases r
 obtain ⟨aU,rv,ht,hz⟩ := I.tuple hq
 refine assign_Tuple_tuple (I.ok.hd hc) ht (by simp [hn,<- hl,rv.length]) eP fun h' hx=>?_
 have I1:Ai X pins σ H { s with heap:=h' }:=I.kept (t':=s.toks) fun b o e=>hx b o (Nat.ne_of_lt (Heap.lt_size e)) e
 exact h pins _ σ H xs _ Q I1 (by simpa using rv) hw
def lf (to ti:TE) (t:ai):TG:=fun v σ H Q=>to σ H fun o H1=>ti σ H1 fun i H2=>t o i v H2 fun H3=>Q σ H3
theorem L3 {o i : Expr} {to ti : TE} {t : ai} (ho : PE X o to) (hi : PE X i ti) (hs : gu X t)
  (ha:∀ v,assign (.Subscript o i pos) X.env v = (do
   let ov <- holding [v] (eval o X.env)
   let iv <- holding [v,ov] (eval i X.env)
   standAt pos
   holding [v,ov,iv] (setItem ov iv v)
   release [v,ov,iv] []):=by intro _; rfl):PG X (.Subscript o i pos) (lf to ti t):=by
 intro pins s σ H v u Q I r h
 rw [ha]
 refine wpAny_bind (wpAny_holding (Bv (ho pins s σ H _ I h) fun ov s1 dG=>?_))
 obtain ⟨x,H1,I1,r1,q1⟩ := dG
 refine wpAny_bind (wpAny_holding (Bv (hi pins s1 σ H1 _ I1 q1) fun iv s2 dG=>?_))
 obtain ⟨y,H2,I2,r2,q2⟩ := dG
 refine wpAny_bind (wpAny_standAt (wpAny_bind (wpAny_holding (Bv (hs pins s2 σ H2 x y v ov iv u _ I2 r1 r2 r q2) fun _ s3 dG=>?_))))
 obtain ⟨H3,I3,q3⟩ := dG
 exact wpAny_release ⟨σ,H3,I3,q3⟩
def jo (te:TE) (g:TG):TS:=fun D σ H=>te σ H fun x H1=>g x σ H1 D.nx
theorem L6 {tg e : Expr} {te : TE} {g : TG} (he : PE X e te) (hg : PG X tg g) (hs : swapsWithSole [tg] e pos.line X.env = pure false := by rfl) (hw : swappedStores [tg] e X.env = pure none := by rfl)
  (h1:(assignEach [tg] X.env).map (·.2) = [assign tg X.env]:=by rfl):PS X (.Assign [tg] e pos) (jo te g):=by
 intro pins s σ H D I h
 refine wpAny_Assign_stores (Bv (he pins s σ H _ I h) fun v s1 ⟨x,H1,I1,r1,q1⟩=>?_) hs hw
 rw [h1]
 exact Bv (hg pins s1 σ H1 x v _ I1 r1 q1) fun _ s2 q=>q
theorem Al {i : Nat} {x : Str} {e : Expr} {te : TE} {pos' : Pos} (hN : X.N.Nodup) (hi : X.N[i]? = some x) (hx : kb X.env.scope x) (he : PE X e te) (hs : swapsWith e (some (.Name x pos')) pos.line X.env = pure false := by rfl) (hf : X.fn x = true \/ X.env.scope.names.lookup x = some .local := by first | exact .inl rfl | exact .inr rfl | assumption) :
  PS X (.Assign [.Name x pos'] e pos) (jo te (Gq i)):=by
 intro pins s σ H D I h
 refine wpAny_Assign_Name (Bv (he pins s σ H _ I h) fun v s1 ⟨y,H1,I1,r1,q1⟩=>?_) hs
 exact Lr I1 hN hi hx r1 (fun s2 I2=>⟨_,H1,I2,q1⟩) hf
end
section
variable {X:Cx} {pos:Pos}
def Yb (c:TT) (tb:TS):TS:=fun D σ H=>∃ W:Nat -> St -> Hp -> Prop,(∃ m,W m σ H) /\ ∀ m σ H,W m σ H ->
 c σ H fun b H1=>if b = true then ∃ N:St -> Hp -> Prop,(∀ σ' H',N σ' H' -> ∃ m',m' < m /\ W m' σ' H') /\ tb { D with nx:=N,ct:=N,bk:=D.nx } σ H1 else D.nx σ H1
theorem Xj {c:Expr} {body:List Stmt} {tc:TT} {tb:TS} (hp:PassesOwn (model X.prog X.w) X.A X.env X.xe) (hc:PT X c tc) (hb:M5 X body tb):PS X (.While c body [] pos) (Yb tc tb):=by
 intro pins s σ H D I h
 obtain ⟨W,⟨m0,w0⟩,turn⟩ := h
 refine wpAny_While (codeAny_whileLoop (fun n s'=>∃ σ' H',Ai X pins σ' H' s' /\ W n σ' H') ?_ m0 ⟨σ,H,I,w0⟩)
 rintro n s1 ⟨σ1,H1,I1,w1⟩
 refine wpAny_passesOwn hp (Bv (hc pins s1 σ1 H1 _ I1 (turn n σ1 H1 w1)) fun b s2 dG=>?_)
 obtain ⟨H2,I2,q2⟩ := dG
 cases b with
 | true =>
  obtain ⟨N,hN,q2⟩ := q2
  rw [if_pos rfl]
  refine wpAny_passesOwn hp (Bv (hb pins s2 σ1 H2 _ I2 q2) fun f s3 q3=>?_)
  cases f with
  | next =>
   obtain ⟨σ3,H3,I3,n3⟩ := q3
   obtain ⟨m',hm,w3⟩ := hN σ3 H3 n3
   exact ⟨m',hm,σ3,H3,I3,w3⟩
  | cont =>
   obtain ⟨σ3,H3,I3,n3⟩ := q3
   obtain ⟨m',hm,w3⟩ := hN σ3 H3 n3
   exact ⟨m',hm,σ3,H3,I3,w3⟩
  | brk=>exact q3
  | ret v=>exact q3
 | false =>
  rw [if_neg Bool.false_ne_true]
  exact wpAny_execs_nil ⟨σ1,H2,I2,q2⟩
end
set_option genInjectivity false in
set_option genSizeOf false in
structure It where
 go:Nat -> Hp -> Prop
 vX:Nat -> Hp -> V -> Hp -> Prop
 stop:Nat -> Hp -> Prop
def Je (X:Cx) (pins:List (Addr × Obj)) (H:Hp) (b:Addr):Prop :=
 H b = none /\ b ≠ X.env.locals /\ b ∉ X.fs /\ (b ∈ X.ex \/ X.s₀.heap.objs.size <= b) /\ (∀ x c,X.env.cells.lookup x = some c -> c ≠ b) /\ ∀ p ∈ X.pn ++ pins,p.1 ≠ b
theorem Ai.mI {X:Cx} {pins:List (Addr × Obj)} {σ:St} {H H':Hp} {s:Shared} {b:Addr} (I:Ai X pins σ H s) (hb:s.heap.objs.size <= b) (hn:H' b = none):Je X pins H' b:=by
 refine ⟨hn,Nat.ne_of_gt (Nat.lt_of_lt_of_le I.lt hb),I.SM hb,.inr (Nat.le_trans I.sz hb),fun x c e z=>?_,fun p hp z=>?_⟩
 ·obtain ⟨v,q⟩ := I.cell x c e
  exact absurd (Nat.lt_of_lt_of_le q.lt (by rw [z]; exact hb)) (Nat.lt_irrefl _)
 ·exact absurd (Nat.lt_of_lt_of_le (Heap.lt_size (I.pin p hp).1) (by rw [z]; exact hb)) (Nat.lt_irrefl _)
structure Pk (P:Program) (w:World) (K:PySem.W.Frag) (tg:Expr) (J:It) (fp:List Addr) (it:Addr) (tn:Nat -> Heap -> Prop):Prop where
 mem:it ∈ fp
 obj:∀ i h,tn i h -> ∀ b ∈ fp,∃ o,h.get? b = some o /\ ∀ v,o.data ≠ .cell v
 keep:∀ i h h',tn i h -> (∀ b ∈ fp,∀ o,h.get? b = some o -> h'.get? b = some o) -> tn i h'
 item:∀ (X:Cx),X.prog = P -> X.w = w -> X.K = K -> X.calm = true -> ∀ (i:Nat) (pins:List (Addr × Obj)) (s:Shared) (σ:St) (H:Hp) (E:Value -> Shared -> Prop),Ai X pins σ H s -> (∀ b ∈ fp,Je X pins H b) -> tn i s.heap -> J.go i H ->
  wpAny (model P w) X.A (pyNext (.ref it)) (fun r s1=>∃ u,r = some u /\
   wpAny (model P w) X.A (letOwnedTupleGo tg (.ref it) u) (fun _ s2=>∃ x H',Ai X pins σ H' s2 /\ B4 x u /\ J.vX i H x H' /\ tn (i + 1) s2.heap /\ ∀ b ∈ fp,H' b = none) E s1) E s
 done:∀ (X:Cx),X.prog = P -> X.w = w -> X.K = K -> X.calm = true -> ∀ (i:Nat) (pins:List (Addr × Obj)) (s:Shared) (σ:St) (H:Hp) (E:Value -> Shared -> Prop),Ai X pins σ H s -> (∀ b ∈ fp,Je X pins H b) -> tn i s.heap -> J.stop i H ->
  wpAny (model P w) X.A (pyNext (.ref it)) (fun r s1=>r = none /\ Ai X pins σ H s1) E s
 self:∀ (A:Around) (i:Nat) (s:Shared) (Q:Value -> Shared -> Prop) (E:Value -> Shared -> Prop),tn i s.heap -> Q (.ref it) s -> wpAny (model P w) A (pyIter (.ref it)) Q E s
abbrev TI:=St -> Hp -> (It -> Hp -> Prop) -> Prop
def kt (X:Cx) (pins:List (Addr × Obj)) (σ:St) (tg:Expr) (R:It -> Hp -> Prop) (QO:Value) (s2:Shared):Prop :=
 ∃ (it:Addr) (fp:List Addr) (tn:Nat -> Heap -> Prop) (J:It) (H':Hp),QO = .ref it /\ Ai X pins σ H' s2 /\ Pk X.prog X.w X.K tg J fp it tn /\ tn 0 s2.heap /\ (∀ b ∈ fp,Je X pins H' b) /\ R J H'
def PI (X:Cx) (tg iter:Expr) (wi:TI):Prop :=
 ∀ (pins:List (Addr × Obj)) (s:Shared) (σ:St) (H:Hp) (R:It -> Hp -> Prop),Ai X pins σ H s -> wi σ H R ->
  wpAny (model X.prog X.w) X.A (eval iter X.env) (fun v s1=>wpAny (model X.prog X.w) X.A (pyIter v) (kt X pins σ tg R) X.xe s1) X.xe s
theorem Tj {M : Model} {A : Around} {E : Value -> Shared -> Prop} {s : Shared} {tg : Expr} {it : Addr} {u : Value} {o : Obj} {n : String} {vs : Array Value} {Q : Unit -> Shared -> Prop} (ho : s.heap.get? it = some o) (hc : o.cls = .type n) (hd : o.data = .fields vs)
  (hn:["enumerate","zip","dict_itemiterator","dict_reverseitemiterator","odict_iterator","itertools.zip_longest","itertools.pairwise"].contains n = false) (hQ:Q () s):wpAny M A (letOwnedTupleGo tg (.ref it) u) Q E s:=by
 unfold letOwnedTupleGo
 cases tg <;> first
  | exact wpAny_pure hQ
  | (cases u <;> first
    | exact wpAny_pure hQ
    | (refine wpAny_bind (wpAny_load ho ?_)
       rw [hc,hd]
       show wpAny M A (if (["enumerate","zip","dict_itemiterator","dict_reverseitemiterator","odict_iterator","itertools.zip_longest","itertools.pairwise"].contains n && vs[0]? == some (rawInt _)) = true then _ else _) Q E s
       rw [if_neg (by intro h; rw [hn,Bool.false_and] at h; cases h)]
       exact wpAny_pure hQ))
def gf (K:PySem.W.Frag) (a:Addr):It :=
 ⟨fun i H=>∃ xs x,B5 K H a xs /\ xs[i]? = some x,fun i H x H'=>H' = H /\ ∀ xs,B5 K H a xs -> xs[i]? = some x,fun i H=>∃ xs,B5 K H a xs /\ xs.length <= i⟩
def gh (K:PySem.W.Frag) (a:Addr):It :=
 ⟨fun i H=>∃ xs x,Bw K H a xs /\ xs[i]? = some x,fun i H x H'=>H' = H /\ ∀ xs,Bw K H a xs -> xs[i]? = some x,fun i H=>∃ xs,Bw K H a xs /\ xs.length <= i⟩
def Yh (lo:Int) (n:Nat):It:=⟨fun i _=>i < n,fun i H x H'=>H' = H /\ x = .int (lo + i),fun i _=>n <= i⟩
theorem Vo {P:Program} {w:World} {K:PySem.W.Frag} {tg:Expr} (a it:Addr):Pk P w K tg (gf K a) [it] it (fun i h=>h.IsListIter it a i) where
 mem:=by simp
 obj:=fun i h st b hb=>by
  have e:b = it:=by simpa using hb
  subst e
  obtain ⟨o,e,c,d⟩ := st
  exact ⟨o,e,fun v z=>by rw [d] at z; cases z⟩
 keep:=fun i h h' st k=>st.at fun o e=>k it (by simp) o e
 item:=by
  intro X hP hw hK hc i pins s σ H E I hf st hg
  subst hP hw hK
  obtain ⟨xs,x,hq,hx⟩ := hg
  obtain ⟨aU,rv,p,hz⟩ := I.list hq
  obtain ⟨u,hu,ru⟩ := rv.get hx
  obtain ⟨f0,f1,f2,f3,f4,f5⟩ := hf it (by simp)
  refine wpAny_pyNext_list_item st p.isList (x:=u) (by simpa using hu) fun h' oq sb=>?_
  have I1:Ai X pins σ H { s with heap:=h' }:=I.turned (t':=s.toks) (fun b o hb e=>(sb.2 b hb).trans e) f0 f1 f3 f4 f5
  obtain ⟨o,e,c,d⟩ := id oq
  exact ⟨u,rfl,Tj (s:={ s with heap:=h' }) e c d (by decide) ⟨x,H,I1,ru,⟨rfl,fun ys hy=>by rw [I.lF hy hq]; exact hx⟩,oq,fun b hb=>(hf b hb).1⟩⟩
 done:=by
  intro X hP hw hK hc i pins s σ H E I hf st hg
  subst hP hw hK
  obtain ⟨xs,hq,hx⟩ := hg
  obtain ⟨aU,rv,p,hz⟩ := I.list hq
  obtain ⟨f0,f1,f2,f3,f4,f5⟩ := hf it (by simp)
  have hl:=rv.length
  exact wpAny_pyNext_list_end (I.ok.hd hc) st p.isList (by simp; omega) fun h' eb=>⟨rfl,I.turned (t':=s.toks) (fun b o hb e=>eb b o hb e) f0 f1 f3 f4 f5⟩
 self:=fun _ _ _ _ _ st h=>wpAny_pyIter_listiter st h
theorem T1 {P:Program} {w:World} {K:PySem.W.Frag} {tg:Expr} (a it:Addr):Pk P w K tg (gh K a) [it] it (fun i h=>h.IsTupleIter it a i) where
 mem:=by simp
 obj:=fun i h st b hb=>by
  have e:b = it:=by simpa using hb
  subst e
  obtain ⟨o,e,c,d⟩ := st
  exact ⟨o,e,fun v z=>by rw [d] at z; cases z⟩
 keep:=fun i h h' st k=>st.at fun o e=>k it (by simp) o e
 item:=by
  intro X hP hw hK hc i pins s σ H E I hf st hg
  subst hP hw hK
  obtain ⟨xs,x,hq,hx⟩ := hg
  obtain ⟨aU,rv,p,hz⟩ := I.tuple hq
  obtain ⟨u,hu,ru⟩ := rv.get hx
  obtain ⟨f0,f1,f2,f3,f4,f5⟩ := hf it (by simp)
  refine wpAny_pyNext_tuple_item st (show s.heap.IsTuple a aU.toArray from p) (x:=u) (by simpa using hu) fun h' oq sb=>?_
  have I1:Ai X pins σ H { s with heap:=h' }:=I.turned (t':=s.toks) (fun b o hb e=>(sb.2 b hb).trans e) f0 f1 f3 f4 f5
  obtain ⟨o,e,c,d⟩ := id oq
  exact ⟨u,rfl,Tj (s:={ s with heap:=h' }) e c d (by decide) ⟨x,H,I1,ru,⟨rfl,fun ys hy=>by rw [I.jR hy hq]; exact hx⟩,oq,fun b hb=>(hf b hb).1⟩⟩
 done:=by
  intro X hP hw hK hc i pins s σ H E I hf st hg
  subst hP hw hK
  obtain ⟨xs,hq,hx⟩ := hg
  obtain ⟨aU,rv,p,hz⟩ := I.tuple hq
  obtain ⟨f0,f1,f2,f3,f4,f5⟩ := hf it (by simp)
  have hl:=rv.length
  exact wpAny_pyNext_tuple_end (I.ok.hd hc) st (show s.heap.IsTuple a aU.toArray from p) (by simp; omega) fun h' eb=>⟨rfl,I.turned (t':=s.toks) (fun b o hb e=>eb b o hb e) f0 f1 f3 f4 f5⟩
 self:=fun _ _ _ _ _ st h=>wpAny_pyIter_tupleiter st h
theorem T0 {P:Program} {w:World} {K:PySem.W.Frag} {tg:Expr} (it:Addr) (lo:Int) (n:Nat):Pk P w K tg (Yh lo n) [it] it (fun i h=>IsRangeIter h it (lo + (i:Nat) * 1) ((n:Int) - (i:Nat)) 1) where
 mem:=by simp
 obj:=fun i h st b hb=>by
  have e:b = it:=by simpa using hb
  subst e
  exact ⟨_,st,fun v z=>by
   have z':Data.fields _ = Data.cell v:=z
   cases z'⟩
 keep:=fun i h h' st k=>k it (by simp) _ st
 item:=by
  intro X hP hw hK hc i pins s σ H E I hf st hg
  subst hP hw hK
  obtain ⟨f0,f1,f2,f3,f4,f5⟩ := hf it (by simp)
  have W:=Walks.range (prog:=X.prog) (w:=X.w) (I.ok.hd hc) it lo 1 n
  refine W.item i s _ _ hg st fun v h' tk hv oq kk=>?_
  obtain ⟨t,rfl⟩ := hv
  have I1:Ai X pins σ H { s with heap:=h',toks:=tk }:=I.turned (fun b o hb e=>kk b o (by simpa using hb) e) f0 f1 f3 f4 f5
  refine ⟨_,rfl,Tj (s:={ s with heap:=h',toks:=tk }) (n := "range_iterator") oq rfl rfl (by decide) ⟨.int (lo + i),H,I1,⟨t,?_⟩,⟨rfl,rfl⟩,oq,fun b hb=>(hf b hb).1⟩⟩
  rw [Int.mul_one]
 done:=by
  intro X hP hw hK hc i pins s σ H E I hf st hg
  subst hP hw hK
  obtain ⟨f0,f1,f2,f3,f4,f5⟩ := hf it (by simp)
  exact wpAny_pyNext_range_end (I.ok.hd hc) st (by have:n <= i:=hg; omega) fun h' eb=>⟨rfl,I.turned (t':=s.toks) (fun b o hb e=>eb b o hb e) f0 f1 f3 f4 f5⟩
 self:=fun _ _ _ _ _ st h=>wpAny_pyIter_rangeiter st h
section
variable {X:Cx} {tg:Expr}
theorem Qs {pins : List (Addr × Obj)} {σ : St} {H : Hp} {s : Shared} {R : It -> Hp -> Prop} {E : Value -> Shared -> Prop} {lo hi : Int} {t u v : Tok} {tk : Nat} (I : Ai X pins σ H s) (h1 : -(2 ^ 62) <= lo) (h2 : lo < 2 ^ 62) (h3 : -(2 ^ 62) <= hi) (h4 : hi < 2 ^ 62)
  (q:R (Yh lo (hi - lo).toNat) H):wpAny (model X.prog X.w) X.A (pyIter (.ref s.heap.objs.size)) (kt X pins σ tg R) E { s with heap:=s.heap.push { cls := .type "range",data := .fields #[.int lo t,.int hi u,.int 1 v] },toks:=tk }:=by
 refine wpAny_pyIter_range (IsRange.new ..) (small_one h1 h2 h3 h4) ?_
 have I1:Ai X pins σ H { s with heap:=s.heap.push { cls := .type "range",data := .fields #[.int lo t,.int hi u,.int 1 v] },toks:=tk }:=I.kept fun b o e=>Heap.get?_push_of_some _ e
 refine ⟨(s.heap.push { cls := .type "range",data := .fields #[.int lo t,.int hi u,.int 1 v] }).objs.size,[(s.heap.push { cls := .type "range",data := .fields #[.int lo t,.int hi u,.int 1 v] }).objs.size],_,_,H,rfl,
  I1.kept (t':=tk) fun b o e=>Heap.get?_push_of_some _ e,T0 _ lo (hi - lo).toNat,?_,fun b hb=>?_,q⟩
 ·have e1:lo + ((0:Nat):Int) * 1 = lo:=by simp
  have e2:(((hi - lo).toNat:Nat):Int) - ((0:Nat):Int) = Builtin.Range.rangeSize lo hi 1:=by rw [rangeSize_one]; split <;> omega
  show IsRangeIter _ _ (lo + ((0:Nat):Int) * 1) ((((hi - lo).toNat:Nat):Int) - ((0:Nat):Int)) 1
  rw [e1,e2]
  exact Heap.get?_push_size _ rfl
 ·have e:b = (s.heap.push { cls := .type "range",data := .fields #[.int lo t,.int hi u,.int 1 v] }).objs.size:=by simpa using hb
  subst e
  exact I1.mI (Nat.le_refl _) (I1.aS.fresh (Nat.le_refl _))
def i4 (ta:TA):TI:=fun σ H R=>ta σ H fun vs H1=>∃ j:Int,vs = [.int j] /\ -(2 ^ 62) <= j /\ j < 2 ^ 62 /\ R (Yh 0 j.toNat) H1
def i5 (ta:TA):TI:=fun σ H R=>ta σ H fun vs H1=>∃ i j:Int,vs = [.int i,.int j] /\ (-(2 ^ 62) <= i /\ i < 2 ^ 62 /\ -(2 ^ 62) <= j /\ j < 2 ^ 62) /\ R (Yh i (j - i).toNat) H1
theorem D4 {a:Expr} {ta:TA} {p pos:Pos} (hg:Gl X "range") (hm:X.mg "range" = none) (ha:PA X [a] ta) (hs:starEach [a] X.env = [(false,eval a X.env)]:=by rfl):PI X tg (.Call (.Name "range" p) [a] [] pos) (i4 ta):=by
 intro pins s σ H R I h
 refine Call_ (Ib I hg hm boot_range (PyProof.Rows.callWith_type1 (Bv (ha pos pins s σ H _ I h) fun us s1 ⟨vs,H1,I1,r1,q1⟩=>?_) hs rfl))
 obtain ⟨j,e,q1,q2,q⟩ := q1
 subst e
 cases r1 with
 | cons r rr =>
  cases rr
  obtain ⟨t,rfl⟩ := r
  exact call_range_1 (Qs I1 (by omega) (by omega) q1 q2 (by simpa using q))
theorem V9 {a b : Expr} {ta : TA} {p pos : Pos} (hg : Gl X "range") (hm : X.mg "range" = none) (ha : PA X [a, b] ta) (hs : starEach [a, b] X.env = [(false, eval a X.env), (false, eval b X.env)] := by rfl) (HV : starEach [b] X.env = [(false, eval b X.env)] := by rfl) :
  PI X tg (.Call (.Name "range" p) [a,b] [] pos) (i5 ta):=by
 intro pins s σ H R I h
 refine Call_ (Ib I hg hm boot_range (PyProof.Rows.callWith_type1 (Bv (ha pos pins s σ H _ I h) fun us s1 ⟨vs,H1,I1,r1,q1⟩=>?_) (by rw [hs,HV]) (by rw [HV]; rfl)))
 obtain ⟨i,j,e,⟨q1,q2,q3,q4⟩,q⟩ := q1
 subst e
 cases r1 with
 | cons r rr =>
  cases rr with
  | cons r' rr =>
   cases rr
   obtain ⟨t,rfl⟩ := r
   obtain ⟨t',rfl⟩ := r'
   exact call_range_2 (Qs I1 q1 q2 q3 q4 q)
def m7 (wi:TI) (g:TG) (tb:TS):TS:=fun D σ H=>wi σ H fun J H1=>∃ W:Nat -> Nat -> St -> Hp -> Prop,(∃ m,W 0 m σ H1) /\ ∀ i m σ H,W i m σ H ->
 (J.stop i H /\ D.nx σ H) \/ (J.go i H /\ ∃ N:St -> Hp -> Prop,(∀ σ' H',N σ' H' -> ∃ m',m' < m /\ W (i + 1) m' σ' H') /\ ∀ x H',J.vX i H x H' -> g x σ H' fun σ2 H2=>tb { D with nx:=N,ct:=N,bk:=D.nx } σ2 H2)
def L5 (fp:List Addr) (h:Heap):List (Addr × Obj):=fp.filterMap fun b=>(h.get? b).map fun o=>(b,o)
theorem F1 {fp:List Addr} {h:Heap} {b:Addr} {o:Obj} (hb:b ∈ fp) (e:h.get? b = some o):(b,o) ∈ L5 fp h:=List.mem_filterMap.mpr ⟨b,hb,by rw [e]; rfl⟩
theorem V1 {fp:List Addr} {h:Heap} {p:Addr × Obj} (hp:p ∈ L5 fp h):p.1 ∈ fp /\ h.get? p.1 = some p.2:=by
 obtain ⟨b,hb,e⟩ := List.mem_filterMap.mp hp
 cases q:h.get? b with
 | none=>rw [q] at e; cases e
 | some o =>
  rw [q] at e
  have e':(b,o) = p:=Option.some.inj e
  subst e'
  exact ⟨hb,q⟩
theorem Ai.pinned {pins:List (Addr × Obj)} {σ:St} {H:Hp} {s:Shared} {fp:List Addr} (I:Ai X pins σ H s) (hf:∀ b ∈ fp,Je X pins H b) (ho:∀ b ∈ fp,∃ o,s.heap.get? b = some o /\ ∀ v,o.data ≠ .cell v):Ai X (pins ++ L5 fp s.heap) σ H s :=
 I.nJ fun p hp=>(List.mem_append.mp hp).elim (fun z=>I.pin p (List.mem_append_right _ z)) fun z=>by
  obtain ⟨hb,e⟩ := V1 z
  obtain ⟨f0,f1,f2,_⟩ := hf p.1 hb
  obtain ⟨o,e',d⟩ := ho p.1 hb
  rw [e] at e'; cases e'
  exact ⟨e,f0,f1,f2,d⟩
theorem Ai.fV {pins pl:List (Addr × Obj)} {σ:St} {H:Hp} {s:Shared} (I:Ai X (pins ++ pl) σ H s):Ai X pins σ H s:=I.nJ fun p hp=>I.pin p (List.mem_append_right _ (List.mem_append_left _ hp))
theorem Cu {iter : Expr} {body : List Stmt} {wi : TI} {g : TG} {tb : TS} {pos : Pos} (hp : PassesOwn (model X.prog X.w) X.A X.env X.xe) (hc : X.calm = true) (hi : PI X tg iter wi) (hg : PG X tg g) (hb : M5 X body tb)
  (hs:∀ x,foldedSetIterable iter X.env x = pure x:=by intro _; rfl):PS X (.For tg iter body [] pos) (m7 wi g tb):=by
 intro pins s σ H D I h
 refine wpAny_For (Bv (hi pins s σ H _ I h) fun v s1 h1=>Bv h1 fun QO s2 h2=>?_) hs
 obtain ⟨it,fp,tn,J,H2,e,I2,T,tY,f2,W,⟨m0,w0⟩,turn⟩ := h2
 subst e
 have stat:∀ {H':Hp},(∀ b ∈ fp,H' b = none) -> ∀ b ∈ fp,Je X pins H' b:=fun hn b hb=>⟨hn b hb,(f2 b hb).2⟩
 refine codeAny_forLoop_any (fun n s'=>∃ i σ' H',Ai X pins σ' H' s' /\ tn i s'.heap /\ (∀ b ∈ fp,H' b = none) /\ W i n σ' H') ?_ m0 ⟨0,σ,H2,I2,tY,fun b hb=>(f2 b hb).1,w0⟩
 rintro n s3 ⟨i,σ3,H3,I3,HW,QP,w3⟩
 rcases turn i n σ3 H3 w3 with ⟨stop,qn⟩ | ⟨go,N,hN,step⟩
 ·refine wpAny_passesOwn hp (Bv (T.done X rfl rfl rfl hc i pins s3 σ3 H3 X.xe I3 (stat QP) HW stop) fun r s4 dG=>?_)
  obtain ⟨hr,I4⟩ := dG
  subst hr
  exact wpAny_execs_nil ⟨σ3,H3,I4,qn⟩
 ·refine wpAny_passesOwn hp (Bv (T.item X rfl rfl rfl hc i pins s3 σ3 H3 X.xe I3 (stat QP) HW go) fun r s4 dG=>?_)
  obtain ⟨u,hr,h4⟩ := dG
  subst hr
  refine wpAny_passesOwn hp (Bv h4 fun _ s5 dG=>?_)
  obtain ⟨x,H5,I5,r5,y5,SS,fr5⟩ := dG
  have I5':=I5.pinned (stat fr5) (T.obj _ _ SS)
  refine wpAny_passesOwn hp (Bv (hg _ s5 σ3 H5 x u _ I5' r5 (step x H5 y5)) fun _ s6 dG=>?_)
  obtain ⟨σ6,H6,I6,q6⟩ := dG
  refine wpAny_passesOwn hp (Bv (hb _ s6 σ6 H6 _ I6 q6) fun f s7 q7=>?_)
  have again:∀ {σ7:St} {H7:Hp},Ai X (pins ++ L5 fp s5.heap) σ7 H7 s7 -> N σ7 H7 -> ∃ m,m < n /\ ∃ i σ' H',Ai X pins σ' H' s7 /\ tn i s7.heap /\ (∀ b ∈ fp,H' b = none) /\ W i m σ' H':=fun {σ7 H7} I7 n7=>by
   obtain ⟨m',hm,w7⟩ := hN σ7 H7 n7
   refine ⟨m',hm,i + 1,σ7,H7,I7.fV,T.keep _ _ _ SS fun b hb o e=>(I7.pin (b,o) (List.mem_append_right _ (List.mem_append_right _ (F1 hb e)))).1,fun b hb=>?_,w7⟩
   obtain ⟨o,e,d⟩ := T.obj _ _ SS b hb
   exact (I7.pin (b,o) (List.mem_append_right _ (List.mem_append_right _ (F1 hb e)))).2.1
  cases f with
  | next=>obtain ⟨σ7,H7,I7,n7⟩ := q7; exact again I7 n7
  | cont=>obtain ⟨σ7,H7,I7,n7⟩ := q7; exact again I7 n7
  | brk=>obtain ⟨σ7,H7,I7,q7⟩ := q7; exact ⟨σ7,H7,I7.fV,q7⟩
  | ret v=>obtain ⟨x7,σ7,H7,I7,r7,q7⟩ := q7; exact ⟨x7,σ7,H7,I7.fV,r7,q7⟩
end
theorem Dl {K : PySem.W.Frag} {a : Addr} {xs : List V} {g : TG} {tb : TS} {D : Hq} {σ : St} {H : Hp} (Pv : Nat -> St -> Hp -> Prop) (h0 : Pv 0 σ H) (hl : ∀ i σ H, i <= xs.length -> Pv i σ H -> B5 K H a xs)
  (hs:∀ i x σ H,xs[i]? = some x -> Pv i σ H -> g x σ H fun σ2 H2=>tb { D with nx:=Pv (i + 1),ct:=Pv (i + 1),bk:=D.nx } σ2 H2) (hd:∀ σ H,Pv xs.length σ H -> D.nx σ H) :
  ∃ W:Nat -> Nat -> St -> Hp -> Prop,(∃ m,W 0 m σ H) /\ ∀ i m σ H,W i m σ H ->
   ((gf K a).stop i H /\ D.nx σ H) \/ ((gf K a).go i H /\ ∃ N:St -> Hp -> Prop,(∀ σ' H',N σ' H' -> ∃ m',m' < m /\ W (i + 1) m' σ' H') /\ ∀ x H',(gf K a).vX i H x H' -> g x σ H' fun σ2 H2=>tb { D with nx:=N,ct:=N,bk:=D.nx } σ2 H2):=by
 refine ⟨fun i m σ H=>m = xs.length - i /\ i <= xs.length /\ Pv i σ H,⟨xs.length,by simp,Nat.zero_le _,h0⟩,?_⟩
 rintro i m σ H ⟨rfl,hi,p⟩
 have q:=hl i σ H hi p
 by_cases dE:i < xs.length
 ·refine .inr ⟨⟨xs,xs[i],q,by simp [dE]⟩,Pv (i + 1),fun σ' H' p'=>⟨xs.length - (i + 1),by omega,rfl,dE,p'⟩,fun x H' y=>?_⟩
  obtain ⟨e,y⟩ := y
  subst e
  exact hs i x σ _ (y xs q) p
 ·have e:i = xs.length:=by omega
  subst e
  exact .inl ⟨⟨xs,q,Nat.le_refl _⟩,hd σ H p⟩
theorem Tg {K : PySem.W.Frag} {a : Addr} {xs : List V} {g : TG} {tb : TS} {D : Hq} {σ : St} {H : Hp} (Pv : Nat -> St -> Hp -> Prop) (h0 : Pv 0 σ H) (hl : ∀ i σ H, i <= xs.length -> Pv i σ H -> Bw K H a xs)
  (hs:∀ i x σ H,xs[i]? = some x -> Pv i σ H -> g x σ H fun σ2 H2=>tb { D with nx:=Pv (i + 1),ct:=Pv (i + 1),bk:=D.nx } σ2 H2) (hd:∀ σ H,Pv xs.length σ H -> D.nx σ H) :
  ∃ W:Nat -> Nat -> St -> Hp -> Prop,(∃ m,W 0 m σ H) /\ ∀ i m σ H,W i m σ H ->
   ((gh K a).stop i H /\ D.nx σ H) \/ ((gh K a).go i H /\ ∃ N:St -> Hp -> Prop,(∀ σ' H',N σ' H' -> ∃ m',m' < m /\ W (i + 1) m' σ' H') /\ ∀ x H',(gh K a).vX i H x H' -> g x σ H' fun σ2 H2=>tb { D with nx:=N,ct:=N,bk:=D.nx } σ2 H2):=by
 refine ⟨fun i m σ H=>m = xs.length - i /\ i <= xs.length /\ Pv i σ H,⟨xs.length,by simp,Nat.zero_le _,h0⟩,?_⟩
 rintro i m σ H ⟨rfl,hi,p⟩
 have q:=hl i σ H hi p
 by_cases dE:i < xs.length
 ·refine .inr ⟨⟨xs,xs[i],q,by simp [dE]⟩,Pv (i + 1),fun σ' H' p'=>⟨xs.length - (i + 1),by omega,rfl,dE,p'⟩,fun x H' y=>?_⟩
  obtain ⟨e,y⟩ := y
  subst e
  exact hs i x σ _ (y xs q) p
 ·have e:i = xs.length:=by omega
  subst e
  exact .inl ⟨⟨xs,q,Nat.le_refl _⟩,hd σ H p⟩
theorem Fu {lo : Int} {n : Nat} {g : TG} {tb : TS} {D : Hq} {σ : St} {H : Hp} (Pv : Nat -> St -> Hp -> Prop) (h0 : Pv 0 σ H)
  (hs:∀ i σ H,i < n -> Pv i σ H -> g (.int (lo + i)) σ H fun σ2 H2=>tb { D with nx:=Pv (i + 1),ct:=Pv (i + 1),bk:=D.nx } σ2 H2) (hd:∀ σ H,Pv n σ H -> D.nx σ H) :
  ∃ W:Nat -> Nat -> St -> Hp -> Prop,(∃ m,W 0 m σ H) /\ ∀ i m σ H,W i m σ H ->
   ((Yh lo n).stop i H /\ D.nx σ H) \/ ((Yh lo n).go i H /\ ∃ N:St -> Hp -> Prop,(∀ σ' H',N σ' H' -> ∃ m',m' < m /\ W (i + 1) m' σ' H') /\ ∀ x H',(Yh lo n).vX i H x H' -> g x σ H' fun σ2 H2=>tb { D with nx:=N,ct:=N,bk:=D.nx } σ2 H2):=by
 refine ⟨fun i m σ H=>m = n - i /\ i <= n /\ Pv i σ H,⟨n,by simp,Nat.zero_le _,h0⟩,?_⟩
 rintro i m σ H ⟨rfl,hi,p⟩
 by_cases dE:i < n
 ·refine .inr ⟨dE,Pv (i + 1),fun σ' H' p'=>⟨n - (i + 1),by omega,rfl,dE,p'⟩,fun x H' y=>?_⟩
  obtain ⟨e,y⟩ := y
  subst e y
  exact hs i σ _ dE p
 ·have e:i = n:=by omega
  subst e
  exact .inl ⟨Nat.le_refl _,hd σ H p⟩
theorem Yf {c : TT} {tb : TS} {D : Hq} {σ : St} {H : Hp} (Pv : St -> Hp -> Prop) (μ : St -> Hp -> Nat) (h0 : Pv σ H)
  (hs:∀ σ H,Pv σ H -> c σ H fun b H1=>if b = true then tb { D with nx:=fun σ' H'=>Pv σ' H' /\ μ σ' H' < μ σ H,ct:=fun σ' H'=>Pv σ' H' /\ μ σ' H' < μ σ H,bk:=D.nx } σ H1 else D.nx σ H1)
  (mono:∀ σ H Q Q',(∀ b H1,Q b H1 -> Q' b H1) -> c σ H Q -> c σ H Q'):Yb c tb D σ H:=by
 refine ⟨fun m σ H=>m = μ σ H /\ Pv σ H,⟨_,rfl,h0⟩,?_⟩
 rintro m σ H ⟨rfl,p⟩
 refine mono σ H _ _ (fun b H1 q=>?_) (hs σ H p)
 cases b with
 | true=>exact ⟨_,fun σ' H' ⟨p',l⟩=>⟨_,l,rfl,p'⟩,q⟩
 | false=>exact q
abbrev R2:=V -> V -> Hp -> VK -> Prop
def G6 (X:Cx) (f:Value -> Value -> Sem Value) (r:R2):Prop :=
 ∀ (pins:List (Addr × Obj)) (s:Shared) (σ:St) (H:Hp) (x y:V) (v u:Value) (Q:VK),Ai X pins σ H s -> B4 x v -> B4 y u -> r x y H Q ->
  wpAny (model X.prog X.w) X.A (f v u) (EP X pins σ Q) X.xe s
def l0 (X:Cx) (f:Value -> Sem Value) (r:V -> Hp -> VK -> Prop):Prop :=
 ∀ (pins:List (Addr × Obj)) (s:Shared) (σ:St) (H:Hp) (x:V) (v:Value) (Q:VK),Ai X pins σ H s -> B4 x v -> r x H Q ->
  wpAny (model X.prog X.w) X.A (f v) (EP X pins σ Q) X.xe s
def D2 (X:Cx) (f:Value) (r:List V -> Hp -> VK -> Prop):Prop :=
 ∀ (pins:List (Addr × Obj)) (s:Shared) (σ:St) (H:Hp) (xs:List V) (us:List Value) (Q:VK),Ai X pins σ H s -> B2 xs us -> r xs H Q ->
  wpAny (model X.prog X.w) X.A (call f us) (EP X pins σ Q) X.xe s
def kz (X:Cx) (r:V -> Hp -> (Bool -> Hp -> Prop) -> Prop):Prop :=
 ∀ (pins:List (Addr × Obj)) (s:Shared) (σ:St) (H:Hp) (x:V) (v:Value) (Q:Bool -> Hp -> Prop),Ai X pins σ H s -> B4 x v -> r x H Q ->
  wpAny (model X.prog X.w) X.A (truthy v) (TP X pins σ Q) X.xe s
def kh (r:R2) (ta tb:TE):TE:=fun σ H Q=>ta σ H fun x H1=>tb σ H1 fun y H2=>r x y H2 Q
def nh (r:V -> Hp -> VK -> Prop) (ta:TE):TE:=fun σ H Q=>ta σ H fun x H1=>r x H1 Q
def rI (C:Int -> Int -> Prop) (g:Int -> Int -> V):R2:=fun x y H Q=>∃ i j,x = .int i /\ y = .int j /\ C i j /\ Q (g i j) H
def dv (g:Int -> Int -> V):R2:=fun x y H Q=>∃ i j,x = .int i /\ y = .int j /\ Q (g i j) H
def rU (g:Int -> V):V -> Hp -> VK -> Prop:=fun x H Q=>∃ i,x = .int i /\ Q (g i) H
section
variable {X:Cx} {a b c:Expr} {ta tb tc:TE} {pos:Pos}
theorem ak (ha : PE X a ta) (hb : PE X b tb) {pins : List (Addr × Obj)} {s : Shared} {σ : St} {H : Hp} {R : V -> V -> Hp -> Prop} (I : Ai X pins σ H s)
  (h:ta σ H fun x H1=>tb σ H1 fun y H2=>R x y H2) {Q:Value -> Shared -> Prop} {f:Value -> Value -> Sem Value}
  (hf:∀ v u s2 x y H2,Ai X pins σ H2 s2 -> B4 x v -> B4 y u -> R x y H2 -> wpAny (model X.prog X.w) X.A (f v u) Q X.xe s2) :
  wpAny (model X.prog X.w) X.A (eval a X.env) (fun v s₁=>wpAny (model X.prog X.w) X.A (eval b X.env) (fun u s₂=>wpAny (model X.prog X.w) X.A (f v u) Q X.xe s₂) X.xe s₁) X.xe s:=by
 refine Bv (ha pins s σ H _ I h) fun v s1 dG=>?_
 obtain ⟨x,H1,I1,r1,q1⟩ := dG
 refine Bv (hb pins s1 σ H1 _ I1 q1) fun u s2 dG=>?_
 obtain ⟨y,H2,I2,r2,q2⟩ := dG
 exact hf v u s2 x y H2 I2 r1 r2 q2
theorem As {op:Operator} {r:R2} (ho:G6 X (binaryOp op) r) (ha:PE X a ta) (hb:PE X b tb):PE X (.BinOp a op b pos) (kh r ta tb):=by
 intro pins s σ H Q I h
 exact wpAny_BinOp (ak ha hb I h fun v u s2 x y H2 I2 rx ry q=>ho pins s2 σ H2 x y v u Q I2 rx ry q)
theorem Qp {op:UnaryOp} {r:V -> Hp -> VK -> Prop} (ho:l0 X (unaryOp op) r) (ha:PE X a ta):PE X (.UnaryOp op a pos) (nh r ta):=by
 intro pins s σ H Q I h
 exact UnaryOp_ (Bv (ha pins s σ H _ I h) fun v s1 ⟨x,H1,I1,r1,q1⟩=>ho pins s1 σ H1 x v Q I1 r1 q1)
theorem kf {f : Value -> Value -> Sem Value} {C : Int -> Int -> Prop} {g : Int -> Int -> Int}
  (rule:∀ (i j:Int) (t u:Tok) (s:Shared) (Q:Value -> Shared -> Prop) (E:Value -> Shared -> Prop),C i j -> Q (.int (g i j) s.toks) { s with toks:=s.toks + 1 } -> wpAny (model X.prog X.w) X.A (f (.int i t) (.int j u)) Q E s) :
  G6 X f (rI C fun i j=>.int (g i j)):=by
 intro pins s σ H x y v u Q I rx ry h
 obtain ⟨i,j,rfl,rfl,hc,q⟩ := h
 obtain ⟨t,rfl⟩ := rx
 obtain ⟨t',rfl⟩ := ry
 exact rule i j t t' s _ _ hc ⟨.int (g i j),H,I.tok _,⟨_,rfl⟩,q⟩
theorem iq {f : Value -> Value -> Sem Value} {g : Int -> Int -> Int}
  (rule:∀ (i j:Int) (t u:Tok) (s:Shared) (Q:Value -> Shared -> Prop) (E:Value -> Shared -> Prop),Q (.int (g i j) s.toks) { s with toks:=s.toks + 1 } -> wpAny (model X.prog X.w) X.A (f (.int i t) (.int j u)) Q E s) :
  G6 X f (dv fun i j=>.int (g i j)):=by
 intro pins s σ H x y v u Q I rx ry h
 obtain ⟨i,j,rfl,rfl,q⟩ := h
 obtain ⟨t,rfl⟩ := rx
 obtain ⟨t',rfl⟩ := ry
 exact rule i j t t' s _ _ ⟨.int (g i j),H,I.tok _,⟨_,rfl⟩,q⟩
theorem dj {f : Value -> Value -> Sem Value} {g : Int -> Int -> Bool}
  (rule:∀ (i j:Int) (t u:Tok) (s:Shared) (Q:Value -> Shared -> Prop) (E:Value -> Shared -> Prop),Q (.bool (g i j)) s -> wpAny (model X.prog X.w) X.A (f (.int i t) (.int j u)) Q E s) :
  G6 X f (dv fun i j=>.bl (g i j)):=by
 intro pins s σ H x y v u Q I rx ry h
 obtain ⟨i,j,rfl,rfl,q⟩ := h
 obtain ⟨t,rfl⟩ := rx
 obtain ⟨t',rfl⟩ := ry
 exact rule i j t t' s _ _ ⟨.bl (g i j),H,I,rfl,q⟩
def km (i j:Int):Prop:=0 < j /\ j < 1073741824
def kn (i j:Int):Prop:=0 <= j /\ j <= 1000000 /\ i.natAbs < 2 ^ 64
theorem Ej:G6 X (binaryOp .Add) (dv fun i j=>.int (i + j)):=iq fun _ _ _ _ _ _ _ q=>add_int q
theorem X9:G6 X (binaryOp .Sub) (dv fun i j=>.int (i - j)):=iq fun _ _ _ _ _ _ _ q=>sub_int q
theorem C0:G6 X (binaryOp .FloorDiv) (rI km fun i j=>.int (i / j)):=kf fun i j _ _ _ _ _ hc q=>by
 have h1:(0:Int) < j:=hc.1
 have h2:j < 1073741824:=hc.2
 exact floordiv_int (by omega) (by rw [Int.fdiv_eq_ediv_of_nonneg i (by omega)]; exact q) (.inl (PyProof.noPylong_small (by omega)))
theorem Bt:G6 X (binaryOp .Mod) (rI (fun _ j=>0 < j) fun i j=>.int (i % j)):=kf fun i j _ _ _ _ _ hc q=>by
 have h1:(0:Int) < j:=hc
 exact mod_int' (by omega) (by rw [Int.fmod_eq_emod_of_nonneg i (by omega)]; exact q)
theorem dl:G6 X (binaryOp .Pow) (rI kn fun i j=>.int (i ^ j.toNat)):=kf fun _ _ _ _ _ _ _ hc q=>pow_int_small hc.1 hc.2.1 hc.2.2 q
theorem ni {f : Value -> Sem Value} {g : Int -> Int}
  (rule:∀ (i:Int) (t:Tok) (s:Shared) (Q:Value -> Shared -> Prop) (E:Value -> Shared -> Prop),Q (.int (g i) s.toks) { s with toks:=s.toks + 1 } -> wpAny (model X.prog X.w) X.A (f (.int i t)) Q E s) :
  l0 X f (rU fun i=>.int (g i)):=by
 intro pins s σ H x v Q I rx h
 obtain ⟨i,rfl,q⟩ := h
 obtain ⟨t,rfl⟩ := rx
 exact rule i t s _ _ ⟨.int (g i),H,I.tok _,⟨_,rfl⟩,q⟩
theorem Lw:l0 X (unaryOp .USub) (rU fun i=>.int (-i)):=ni fun _ _ _ _ _ q=>neg_int q
end
def jj:V -> V -> Bool
 | .cZ,.cZ=>true | .cZ,.int _=>true | .int _,.cZ=>true | .cZ,.bl _=>true | .bl _,.cZ=>true | .cZ,.str _=>true | .str _,.cZ=>true
 | .int _,.int _=>true | .bl _,.bl _=>true | .str _,.str _=>true | .nI _,.nI _=>true
 | .int _,.str _=>true | .str _,.int _=>true | .bl _,.str _=>true | .str _,.bl _=>true
 | _,_=>false
def mw:R2:=fun x y H Q=>jj x y = true /\ Q (.bl (decide (x = y))) H
def n8:R2:=fun x y H Q=>jj x y = true /\ Q (.bl (!decide (x = y))) H
theorem Tc {i j:Int}:decide (V.int i = V.int j) = (i == j):=by
 rw [Bool.eq_iff_iff]
 simp
theorem W9 {i j:Bool}:decide (V.bl i = V.bl j) = (i == j):=by
 rw [Bool.eq_iff_iff]
 simp
theorem O6 {i j:Str}:decide (V.str i = V.str j) = (i == j):=by
 rw [Bool.eq_iff_iff]
 simp
theorem Tb {i j:Array UInt8}:decide (V.nI i = V.nI j) = (i.toList == j.toList):=by
 rw [Bool.eq_iff_iff]
 cases i
 cases j
 simp
section
variable {X:Cx} {a b c:Expr} {ta tb tc:TE} {pos:Pos}
theorem B9 {pins:List (Addr × Obj)} {σ:St} {H:Hp} {s:Shared} {Q:VK} {k k':Bool} (I:Ai X pins σ H s) (q:Q (.bl k) H) (e:k = k'):EP X pins σ Q (.bool k') s:=by
 subst e
 exact ⟨.bl k,H,I,rfl,q⟩
theorem Ci:G6 X (compareOp .Eq) mw:=by
 intro pins s σ H x y v u Q I rx ry h
 obtain ⟨hs,q⟩ := h
 cases x with
 | cZ =>
  cases rx
  cases y with
  | cZ=>cases ry; exact PySem.EqNone.eq_none_none (B9 I q (by simp))
  | bl j=>cases ry; exact PySem.EqNone.eq_none_bool (B9 I q (by simp))
  | int j=>obtain ⟨t',rfl⟩ := ry; exact PySem.EqNone.eq_none_int (B9 I q (by simp))
  | str j=>obtain ⟨t',rfl⟩ := ry; exact PySem.EqNone.eq_none_str (B9 I q (by simp))
  | _=>exact absurd (show false = true from hs) Bool.false_ne_true
 | bl i =>
  cases rx
  cases y with
  | cZ=>cases ry; exact PySem.EqNone.eq_bool_none (B9 I q (by simp))
  | bl j=>cases ry; exact eq_bool (B9 I q W9)
  | str j=>obtain ⟨t',rfl⟩ := ry; exact PySem.EqMixed.eq_bool_str (B9 I q (by simp))
  | _=>exact absurd (show false = true from hs) Bool.false_ne_true
 | int i =>
  obtain ⟨t,rfl⟩ := rx
  cases y with
  | cZ=>cases ry; exact PySem.EqNone.eq_int_none (B9 I q (by simp))
  | int j=>obtain ⟨t',rfl⟩ := ry; exact eq_int (B9 I q Tc)
  | str j=>obtain ⟨t',rfl⟩ := ry; exact PySem.EqMixed.eq_int_str (B9 I q (by simp))
  | _=>exact absurd (show false = true from hs) Bool.false_ne_true
 | str i =>
  obtain ⟨t,rfl⟩ := rx
  cases y with
  | cZ=>cases ry; exact PySem.EqNone.eq_str_none (B9 I q (by simp))
  | bl j=>cases ry; exact PySem.EqMixed.eq_str_bool (B9 I q (by simp))
  | int j=>obtain ⟨t',rfl⟩ := ry; exact PySem.EqMixed.eq_str_int (B9 I q (by simp))
  | str j=>obtain ⟨t',rfl⟩ := ry; exact eq_str (B9 I q O6)
  | _=>exact absurd (show false = true from hs) Bool.false_ne_true
 | nI i =>
  obtain ⟨t,rfl⟩ := rx
  cases y with
  | nI j=>obtain ⟨t',rfl⟩ := ry; exact PySem.W.eq_bytes (B9 I q Tb)
  | _=>exact absurd (show false = true from hs) Bool.false_ne_true
 | _=>cases y <;> exact absurd (show false = true from hs) Bool.false_ne_true
theorem iu:G6 X (compareOp .NotEq) n8:=by
 intro pins s σ H x y v u Q I rx ry h
 obtain ⟨hs,q⟩ := h
 cases x with
 | cZ =>
  cases rx
  cases y with
  | cZ=>cases ry; exact PySem.EqNone.ne_none_none (B9 I q (by simp))
  | bl j=>cases ry; exact PySem.EqNone.ne_none_bool (B9 I q (by simp))
  | int j=>obtain ⟨t',rfl⟩ := ry; exact PySem.EqNone.ne_none_int (B9 I q (by simp))
  | str j=>obtain ⟨t',rfl⟩ := ry; exact PySem.EqNone.ne_none_str (B9 I q (by simp))
  | _=>exact absurd (show false = true from hs) Bool.false_ne_true
 | bl i =>
  cases rx
  cases y with
  | cZ=>cases ry; exact PySem.EqNone.ne_bool_none (B9 I q (by simp))
  | bl j=>cases ry; exact ne_bool (B9 I q (congrArg not W9))
  | str j=>obtain ⟨t',rfl⟩ := ry; exact PySem.EqMixed.ne_bool_str (B9 I q (by simp))
  | _=>exact absurd (show false = true from hs) Bool.false_ne_true
 | int i =>
  obtain ⟨t,rfl⟩ := rx
  cases y with
  | cZ=>cases ry; exact PySem.EqNone.ne_int_none (B9 I q (by simp))
  | int j=>obtain ⟨t',rfl⟩ := ry; exact ne_int (B9 I q (congrArg not Tc))
  | str j=>obtain ⟨t',rfl⟩ := ry; exact PySem.EqMixed.ne_int_str (B9 I q (by simp))
  | _=>exact absurd (show false = true from hs) Bool.false_ne_true
 | str i =>
  obtain ⟨t,rfl⟩ := rx
  cases y with
  | cZ=>cases ry; exact PySem.EqNone.ne_str_none (B9 I q (by simp))
  | bl j=>cases ry; exact PySem.EqMixed.ne_str_bool (B9 I q (by simp))
  | int j=>obtain ⟨t',rfl⟩ := ry; exact PySem.EqMixed.ne_str_int (B9 I q (by simp))
  | str j=>obtain ⟨t',rfl⟩ := ry; exact ne_str (B9 I q (congrArg not O6))
  | _=>exact absurd (show false = true from hs) Bool.false_ne_true
 | nI i =>
  obtain ⟨t,rfl⟩ := rx
  cases y with
  | nI j=>obtain ⟨t',rfl⟩ := ry; exact PySem.W.ne_bytes (B9 I q (congrArg not Tb))
  | _=>exact absurd (show false = true from hs) Bool.false_ne_true
 | _=>cases y <;> exact absurd (show false = true from hs) Bool.false_ne_true
theorem Ha:G6 X (compareOp .Lt) (dv fun i j=>.bl (decide (i < j))):=dj fun _ _ _ _ _ _ _ q=>lt_int q
theorem Tm:G6 X (compareOp .Gt) (dv fun i j=>.bl (decide (j < i))):=dj fun _ _ _ _ _ _ _ q=>gt_int q
theorem ir:G6 X (compareOp .GtE) (dv fun i j=>.bl (decide (j <= i))):=dj fun _ _ _ _ _ _ _ q=>ge_int q
theorem V4:G6 X (compareOp .In) (fun x y H Q=>∃ i j,x = .str i /\ y = .str j /\ Q (.bl (!(Builtin.Str.occurrences j i 0 j.length 1).isEmpty)) H):=by
 intro pins s σ H x y v u Q I rx ry h
 obtain ⟨i,j,rfl,rfl,q⟩ := h
 obtain ⟨t,rfl⟩ := rx
 obtain ⟨t',rfl⟩ := ry
 exact in_str (B9 I q rfl)
theorem Kw:G6 X (compareOp .Is) (fun x y H Q=>y = .cZ /\ Q (.bl (decide (x = .cZ))) H):=by
 intro pins s σ H x y v u Q I rx ry h
 obtain ⟨rfl,q⟩ := h
 cases ry
 refine is_none_gen (B9 I q ?_)
 cases x <;> first
  | (cases rx; rfl)
  | (obtain ⟨t,rfl⟩ := rx; rfl)
theorem Hb:G6 X (compareOp .IsNot) (fun x y H Q=>y = .cZ /\ Q (.bl (!decide (x = .cZ))) H):=by
 intro pins s σ H x y v u Q I rx ry h
 obtain ⟨rfl,q⟩ := h
 cases ry
 refine isnot_none_gen (B9 I q ?_)
 cases x <;> first
  | (cases rx; rfl)
  | (obtain ⟨t,rfl⟩ := rx; rfl)
theorem Am (b:Expr) {op:CmpOp} (h:op ≠ .In:=by decide) (h2:op ≠ .NotIn:=by decide):behindInMarks op b = false:=by
 have e1:(op == CmpOp.In) = false:=by cases op <;> first | rfl | exact absurd rfl h
 have e2:(op == CmpOp.NotIn) = false:=by cases op <;> first | rfl | exact absurd rfl h2
 cases b <;> simp [behindInMarks,e1,e2]
theorem Bk {op:CmpOp} {r:R2} (ho:G6 X (compareOp op) r) (ha:PE X a ta) (hb:PE X b tb) (hm:behindInMarks op b = false):PE X (.Compare a [op] [b] pos) (kh r ta tb):=by
 intro pins s σ H Q I h
 exact wpAny_Compare1 (ak ha hb I h fun v u s2 x y H2 I2 rx ry q=>ho pins s2 σ H2 x y v u Q I2 rx ry q) hm
def jy (t:TE):TT:=fun σ H Q=>t σ H fun x H'=>∃ k,x = .bl k /\ Q k H'
theorem An {op:CmpOp} {r:R2} (ho:G6 X (compareOp op) r) (ha:PE X a ta) (hb:PE X b tb) (hm:behindInMarks op b = false):PT X (.Compare a [op] [b] pos) (jy (kh r ta tb)):=by
 intro pins s σ H Q I h
 refine wpAny_isTrue_Compare1 (Bv (ha pins s σ H _ I h) fun v s1 ⟨x,H1,I1,r1,q1⟩=>Bv (hb pins s1 σ H1 _ I1 q1) fun u s2 ⟨y,H2,I2,r2,q2⟩ =>
  Bv (ho pins s2 σ H2 x y v u _ I2 r1 r2 q2) fun c s3 ⟨z,H3,I3,r3,k,e,q3⟩=>?_) hm
 subst e
 cases r3
 exact wpAny_truthy_bool ⟨H3,I3,q3⟩
def gx (K:PySem.W.Frag) (x:V) (H:Hp) (k:Bool):Prop :=
 match x with
 | .cZ=>k = false
 | .bl b=>k = b
 | .int i=>k = (i != 0)
 | .str y=>y.length <= sizeLine /\ k = ((y.length:Int) != 0)
 | .nI y=>y.size <= sizeLine /\ k = ((y.size:Int) != 0)
 | .ref p=>(∃ xs,B5 K H p xs /\ k = !xs.isEmpty) \/ (∃ xs,Bw K H p xs /\ k = !xs.isEmpty) \/ ∃ kvs,H p = some (.dK kvs) /\ k = !kvs.isEmpty
 | _=>False
theorem Rj {κ:Type} {kvs:List (κ × V)} {vs:List (κ × Value)} (r:KV kvs vs):(!vs.isEmpty) = !kvs.isEmpty:=by
 cases r <;> rfl
theorem Kl {xs:List V} {aU:List Value} (r:B2 xs aU):(!aU.toArray.isEmpty) = !xs.isEmpty:=by
 cases r <;> simp
theorem Gg:(sizeLine:Nat) < 2 ^ 63:=by rw [sizeLine_eq]; decide
theorem g9:kz X (fun x H Q=>∃ k,gx X.K x H k /\ Q k H):=by
 intro pins s σ H x v Q I rx h
 obtain ⟨k,e,q⟩ := h
 have hl:=Gg
 have hs:sizeLine = 16777216:=sizeLine_eq
 cases x with
 | cZ =>
  cases rx
  have e':k = false:=e
  subst e'
  exact truthy_none ⟨H,I,q⟩
 | bl b =>
  cases rx
  have e':k = b:=e
  subst e'
  exact wpAny_truthy_bool ⟨H,I,q⟩
 | int i =>
  obtain ⟨t,rfl⟩ := rx
  have e':k = (i != 0):=e
  subst e'
  exact PySem.P.truthy_int ⟨H,I,q⟩
 | str y =>
  obtain ⟨t,rfl⟩ := rx
  obtain ⟨hy,e'⟩ : y.length <= sizeLine /\ k = ((y.length:Int) != 0):=e
  subst e'
  exact PySem.P.truthy_str (by omega) ⟨H,I.tok _,q⟩
 | nI y =>
  obtain ⟨t,rfl⟩ := rx
  obtain ⟨hy,e'⟩ : y.size <= sizeLine /\ k = ((y.size:Int) != 0):=e
  subst e'
  exact PySem.W.truthy_bytes (by omega) ⟨H,I.tok _,q⟩
 | ref p =>
  cases rx
  have e':(∃ xs,B5 X.K H p xs /\ k = !xs.isEmpty) \/ (∃ xs,Bw X.K H p xs /\ k = !xs.isEmpty) \/ ∃ kvs,H p = some (.dK kvs) /\ k = !kvs.isEmpty:=e
  rcases e' with ⟨xs,hx,e'⟩ | ⟨xs,hx,e'⟩ | ⟨kvs,hx,e'⟩
  ·subst e'
   obtain ⟨aU,r,pl,hz⟩ := I.list hx
   have hlen:=r.length
   exact wpAny_truthy_list pl.isList (by simp only [List.size_toArray]; omega) ⟨H,I.tok _,by rw [Kl r]; exact q⟩
  ·subst e'
   obtain ⟨aU,r,pl,hz⟩ := I.tuple hx
   have hlen:=r.length
   exact truthy_tuple pl (by simp only [List.size_toArray]; omega) ⟨H,I.tok _,by rw [Kl r]; exact q⟩
  ·subst e'
   obtain ⟨hz,hS,vs,r,m⟩ : kvs.length <= sizeLine /\ (p == sysModules) = false /\ ∃ vs,KV kvs vs /\ s.heap.DictOf (D7 X.prog X.w) p vs:=I.aS p _ hx
   have hlen:kvs.length = vs.length:=Paired.length r
   exact wpAny_truthy_dict hS m (by omega) ⟨H,I.tok _,by rw [Rj r]; exact q⟩
 | _=>exact (show False from e).elim
theorem Qq (ha : PE X a ta) (he : ∀ whole, isTrue a X.env whole = (do let v <- whole; standAt a.pos; holding [v] (truthy v))) :
  PT X a (fun σ H Q=>ta σ H fun x H'=>∃ k,gx X.K x H' k /\ Q k H'):=by
 intro pins s σ H Q I h
 exact isTrue_plain (Bv (ha pins s σ H _ I h) fun v s1 ⟨x,H1,I1,r1,q1⟩=>g9 pins s1 σ H1 x v Q I1 r1 q1) (he _)
theorem Cn:G6 X (binaryOp .Add) (fun x y H Q=>∃ i j,x = .str i /\ y = .str j /\ i.length + j.length <= sizeLine /\ Q (.str (i ++ j)) H):=by
 intro pins s σ H x y v u Q I rx ry h
 obtain ⟨i,j,rfl,rfl,hz,q⟩ := h
 obtain ⟨t,rfl⟩ := rx
 obtain ⟨t',rfl⟩ := ry
 exact add_str (fun t' tk=>⟨.str (i ++ j),H,I.tok _,⟨_,rfl⟩,q⟩) hz
theorem Ff {x:V} {us:List Value} (r:B2 [x] us):∃ u,us = [u] /\ B4 x u:=by
 cases r with
 | cons r1 r2=>cases r2; exact ⟨_,rfl,r1⟩
theorem Yd {x y:V} {us:List Value} (r:B2 [x,y] us):∃ u w',us = [u,w'] /\ B4 x u /\ B4 y w':=by
 cases r with
 | cons r1 r2 =>
  cases r2 with
  | cons r3 r4=>cases r4; exact ⟨_,_,rfl,r1,r3⟩
theorem U6 (hc:X.calm = true):D2 X (.builtin "max") (fun xs H Q=>∃ i j,xs = [.int i,.int j] /\ Q (.int (if j > i then j else i)) H):=by
 intro pins s σ H xs us Q I r h
 obtain ⟨i,j,rfl,q⟩ := h
 obtain ⟨u,w',rfl,⟨t,rfl⟩,⟨t',rfl⟩⟩ := Yd r
 refine max_two_ints (I.ok.hd hc) fun h' tk k=>⟨_,H,I.kept k,?_,q⟩
 by_cases hj:j > i
 ·rw [if_pos hj,if_pos hj]; exact ⟨_,rfl⟩
 ·rw [if_neg hj,if_neg hj]; exact ⟨_,rfl⟩
theorem U8 (hc:X.calm = true):D2 X (.builtin "min") (fun xs H Q=>∃ i j,xs = [.int i,.int j] /\ Q (.int (if j < i then j else i)) H):=by
 intro pins s σ H xs us Q I r h
 obtain ⟨i,j,rfl,q⟩ := h
 obtain ⟨u,w',rfl,⟨t,rfl⟩,⟨t',rfl⟩⟩ := Yd r
 refine min_two_ints (I.ok.hd hc) fun h' tk k=>⟨_,H,I.kept k,?_,q⟩
 by_cases hj:j < i
 ·rw [if_pos hj,if_pos hj]; exact ⟨_,rfl⟩
 ·rw [if_neg hj,if_neg hj]; exact ⟨_,rfl⟩
theorem Mb:D2 X (.type "int") (fun xs H Q=>(∃ i,xs = [.int i] /\ Q (.int i) H) \/ ∃ k,xs = [.bl k] /\ Q (.int (if k then 1 else 0)) H):=by
 intro pins s σ H xs us Q I r h
 rcases h with ⟨i,rfl,q⟩ | ⟨k,rfl,q⟩
 ·obtain ⟨u,rfl,t,rfl⟩ := Ff r
  exact call_int_int ⟨.int i,H,I,⟨_,rfl⟩,q⟩
 ·obtain ⟨u,rfl,r1⟩ := Ff r
  cases r1
  exact call_int_bool ⟨.int (if k then 1 else 0),H,I.tok _,⟨_,rfl⟩,q⟩
theorem Bd:D2 X (.type "str") (fun xs H Q=>∃ i,xs = [.int i] /\ i.natAbs.log2 < 1920 /\ Q (.str (toString i)) H):=by
 intro pins s σ H xs us Q I r h
 obtain ⟨i,rfl,hz,q⟩ := h
 obtain ⟨u,rfl,t,rfl⟩ := Ff r
 exact PySem.P.str_of_int hz ⟨.str _,H,I.tok _,⟨_,rfl⟩,q⟩
end
structure R6 (h:Heap) (x dx C:Addr) (mA:Str -> Option Value):Prop where
 obj:h.get? x = some (PySem.W.instObj C dx)
 ns:h.Ns1 dx mA
 ne:dx ≠ x
theorem Uv {h:Heap} {dx:Addr} {mA:Str -> Option Value} (n:h.Ns1 dx mA):∃ od,h.get? dx = some od /\ ∀ name,PySem.W.lookIn name od = some (mA name):=by
 obtain ⟨o,es,ep,ho,hd,hk,_,hm⟩ := n
 refine ⟨o,ho,fun name=>?_⟩
 have e:=hm name
 unfold nsFind findBy at e
 rw [<- Array.find?_toList] at e
 unfold PySem.W.lookIn
 rw [hd]
 dsimp only
 split
 ·rename_i y q
  rw [q] at e
  exact congrArg some e
 ·rename_i q
  rw [q] at e
  have a:es.toList.any (·.refKey) = false:=by
   rw [List.any_eq_false]
   intro y hy
   obtain ⟨z,t,mJ⟩ := hk y (Array.mem_toList_iff.mp hy)
   simp [DictEntry.refKey,mJ]
  have a':¬ es.toList.any (·.refKey) = true:=by rw [a]; exact Bool.false_ne_true
  rw [if_neg a']
  exact congrArg some e
theorem R6.look {h:Heap} {x dx C:Addr} {mA:Str -> Option Value} (I:R6 h x dx C mA):∃ od,PySem.W.InstAt h x (PySem.W.instObj C dx) C (some od) /\ ∀ name,PySem.W.lookIn name od = some (mA name) :=
 let ⟨od,ho,hl⟩ := Uv I.ns
 ⟨od,⟨I.obj,rfl,rfl,ho⟩,hl⟩
section
variable {prog:Program} {w:World} {A:Around} {E:Value -> Shared -> Prop} {s:Shared} {K:PySem.W.Frag} {x dx C f:Addr} {mA:Str -> Option Value} {name:Str} {v:Value}
theorem Yt {expr : Bool} {Q : Value -> Shared -> Prop} (X : K.In s.heap) (I : R6 s.heap x dx C mA) (hg : PySem.W.plainGet K C name = true) (hh : PySem.W.hasDictIn K C = true)
  (ha:PySem.W.findIn K (.ref C) name = some none) (hv:mA name = some v) (oQ:PySem.W.handedIn v = true) (h:Q v { s with toks:=s.toks + 1 }) :
  wpAny (model prog w) A (getAttr (.ref x) name expr) Q E s:=by
 obtain ⟨od,J,hl⟩ := I.look
 exact PySem.W.get_value X J (PySem.W.plainGet_of hg).1 (PySem.W.findObj_own hh ha rfl (by rw [hl,hv])) oQ h
theorem Wo {pl : Sem Bool} {Q : Value × List Value -> Shared -> Prop} (X : K.In s.heap) (I : R6 s.heap x dx C mA) (hg : PySem.W.plainGet K C name = true)
  (hf:PySem.W.findIn K (.ref C) name = some (some (.ref f))) (ht:PySem.W.isFn K (.ref f) = true) (hv:mA name = none) (h:Q (.ref f,[.ref x]) s) :
  wpAny (model prog w) A (getMethod (.ref x) name pl) Q E s:=by
 obtain ⟨od,J,hl⟩ := I.look
 exact PySem.W.method_fn X J (PySem.W.plainGet_of hg).1 (PySem.W.plainGet_of hg).2 hf (beq_iff_eq.mp ht) (by show (PySem.W.lookIn name od).map (·.isSome) = some false; rw [hl,hv]; rfl) h
theorem Zk {ns : List Str} {Q : Unit -> Shared -> Prop} (X : K.In s.heap) (I : R6 s.heap x dx C mA)
  (hs:PySem.W.findIn K (.ref C) "__setattr__" = some (some (.builtin "object.__setattr__"))) (hp:PySem.W.plainOver K C = true) (ht:PySem.W.takerIn K C name = some none) (hh:PySem.W.hasDictIn K C = true)
  (hw:PySem.Within mA ns) (hsz:ns.length <= sizeLine)
  (h:∀ h',R6 h' x dx C (fun y=>if y = name then some v else mA y) -> Heap.SameBut dx s.heap h' -> Q () { s with heap:=h',toks:=s.toks + 2 }) :
  wpAny (model prog w) A (setAttr (.ref x) name v) Q E s:=by
 obtain ⟨od,J,hl⟩ := I.look
 refine PySem.W.set_plain X J hs (PySem.W.osa_open (s:={ s with toks:=s.toks + 1 }) (r:=none) X J hp ht fun b=>?_)
 obtain ⟨cd,hc,oO⟩ := PySem.W.any_some hh
 have hx:s.heap.get? x = some ⟨.ref C,some dx,.plain,#[]⟩ := I.obj
 refine wpAny_bind (wpAny_pure (wpAny_bind (wpAny_bind (wpAny_loadPart hx (wpAny_bind (PySem.W.Looks.here (s:={ s with toks:=s.toks + 1 }) (PySem.W.looks_clsIn X hc) ?_))))))
 rw [oO]
 refine wpAny_pure (a:=some dx) (wpAny_bind (wpAny_pure (wpAny_bind ?_)))
 refine wpAny_nsSet1 (s:={ s with toks:=s.toks + 1 }) I.ns fun h' QQ HV=>?_
 obtain ⟨oD,esD,epD,hoD,hdD,HY⟩ := QQ.count (PySem.Within.cons name v hw)
 refine wpAny_bind (wpAny_lookBehind hoD (by rw [hdD]; exact pastItsLine_dict (Nat.le_trans HY (by rw [List.length_cons]; omega))) ?_)
 exact wpAny_pure (h _ ⟨(HV.2 _ (Ne.symm I.ne)).trans I.obj,QQ,I.ne⟩ HV)
theorem X0 {R : Result -> Shared -> Prop} {vs : List Value} {kw : List (Str × Value)} (X : K.In s.heap) (hm : PySem.W.makesIn K C = true)
  (hi:PySem.W.findIn K (.ref C) "__init__" = some (some (.ref f))) (hf:PySem.W.typeIn K (.ref f) = some (.type "function"))
  (h:codeAny (model prog w) (A.under (.builtin "type.__call__" ⟨.ref C :: vs,kw⟩)) (.call (.ref f) ⟨.ref (s.heap.objs.size + 1) :: vs,kw⟩) (PySem.W.InitBack (s.heap.objs.size + 1) R)
   { s with heap:=(s.heap.push PySem.W.emptyDict).push (PySem.W.instObj C s.heap.objs.size) }) :
  codeAny (model prog w) A (.call (.ref C) ⟨vs,kw⟩) R s:=by
 obtain ⟨hh,g,d,t,os⟩ := s
 exact PySem.W.make_core (PySem.W.makes_of X hm) (PySem.W.looks_findIn X hi) (fun self=>PySem.W.bind_fn X self hf) (.inl rfl) h
end
def Fo (f:Str) (v:V):List (Str × V) -> List (Str × V)
 | []=>[(f,v)]
 | (g,x) :: r=>if g = f then (g,v) :: r else (g,x) :: Fo f v r
theorem J0 (f g:Str) (v:V):∀ fs:List (Str × V),(Fo f v fs).lookup g = if g = f then some v else fs.lookup g
 | []=>by
  show List.lookup g [(f,v)] = _
  by_cases h:g = f
  ·have hb:(g == f) = true:=beq_iff_eq.mpr h
   simp only [List.lookup,hb,if_pos h]
  ·have hb:(g == f) = false:=beq_eq_false_iff_ne.mpr h
   simp only [List.lookup,hb,if_neg h]
 | (k,x) :: r=>by
  have ih:=J0 f g v r
  rw [show Fo f v ((k,x) :: r) = (if k = f then (k,v) :: r else (k,x) :: Fo f v r) from rfl]
  by_cases hk:k = f
  ·rw [if_pos hk]
   by_cases h:g = k
   ·have hb:(g == k) = true:=beq_iff_eq.mpr h
    simp only [List.lookup,hb,if_pos (h.trans hk)]
   ·have hb:(g == k) = false:=beq_eq_false_iff_ne.mpr h
    simp only [List.lookup,hb,if_neg (fun e:g = f=>h (e.trans hk.symm))]
  ·rw [if_neg hk]
   by_cases h:g = k
   ·have hb:(g == k) = true:=beq_iff_eq.mpr h
    simp only [List.lookup,hb,if_neg (fun e:g = f=>hk (h.symm.trans e))]
   ·have hb:(g == k) = false:=beq_eq_false_iff_ne.mpr h
    simp only [List.lookup,hb]
    exact ih
theorem Ia (f:Str) (v:V):∀ fs:List (Str × V),f ∈ (Fo f v fs).map (·.1) /\ ∀ g,g ∈ fs.map (·.1) -> g ∈ (Fo f v fs).map (·.1)
 | []=>⟨by simp [Fo],fun g h=>by simp at h⟩
 | (k,x) :: r=>by
  obtain ⟨i1,i2⟩ := Ia f v r
  rw [show Fo f v ((k,x) :: r) = (if k = f then (k,v) :: r else (k,x) :: Fo f v r) from rfl]
  by_cases hk:k = f
  ·rw [if_pos hk]
   subst hk
   exact ⟨by simp,fun g h=>by simpa using h⟩
  ·rw [if_neg hk]
   refine ⟨?_,fun g h=>?_⟩
   ·rw [List.map_cons]
    exact List.mem_cons_of_mem _ i1
   ·rw [List.map_cons] at h ⊢
    rcases List.mem_cons.mp h with e | e
    ·exact List.mem_cons.mpr (.inl e)
    ·exact List.mem_cons_of_mem _ (i2 g e)
theorem Iz (f:Str) (v:V):∀ fs:List (Str × V),(Fo f v fs).length <= fs.length + 1
 | []=>by simp [Fo]
 | (k,x) :: r=>by
  have ih:=Iz f v r
  rw [show Fo f v ((k,x) :: r) = (if k = f then (k,v) :: r else (k,x) :: Fo f v r) from rfl]
  by_cases hk:k = f
  ·rw [if_pos hk,List.length_cons,List.length_cons]; omega
  ·rw [if_neg hk,List.length_cons,List.length_cons]; omega
theorem Ey.some_of {v:V} {o:Option Value} (r:Ey (some v) o):∃ u,o = some u /\ B4 v u:=by
 cases o with
 | none=>exact (show False from r).elim
 | some u=>exact ⟨u,rfl,r⟩
theorem Ey.none_of {o:Option Value} (r:Ey none o):o = none:=by
 cases o with
 | none=>rfl
 | some u=>exact (show False from r).elim
theorem Um {v:V} {u:Value} (r:B4 v u):PySem.W.handedIn u = true:=by
 cases v with
 | cZ=>cases (show u = Value.none from r); rfl
 | bl b=>cases (show u = Value.bool b from r); rfl
 | int i=>obtain ⟨t,e⟩ := (show ∃ t,u = Value.int i t from r); cases e; rfl
 | str x=>obtain ⟨t,e⟩ := (show ∃ t,u = Value.str x t from r); cases e; rfl
 | nI b=>obtain ⟨t,e⟩ := (show ∃ t,u = Value.bytes b t from r); cases e; rfl
 | vU b=>obtain ⟨t,e⟩ := (show ∃ t,u = Value.float b t from r); cases e; rfl
 | ref a=>cases (show u = Value.ref a from r); rfl
 | ty n=>cases (show u = Value.type n from r); rfl
section
variable {P:Program} {w:World} {H H':Hp} {h h':Heap} {a C dx:Addr} {fs fs':List (Str × V)}
theorem Jx (aS:Fh P w H h) (e:H a = some (.ins C dx fs)):∃ mA,R6 h a dx C mA /\ (∀ f,Ey (fs.lookup f) (mA f)) /\ PySem.Within mA (fs.map (·.1)) /\ fs.length <= 1000 /\ H dx = some (.own a):=by
 obtain ⟨d,z,ne,ob,mA,n,r,q⟩ := (show Bl P w H h a (.ins C dx fs) from aS a _ e)
 exact ⟨mA,⟨ob,n,ne⟩,r,q,z,d⟩
end
structure Vq (K:PySem.W.Frag) (C:Addr):Prop where
 pg:PySem.W.plainGet K C Str.empty = true
 hd:PySem.W.hasDictIn K C = true
 po:PySem.W.plainOver K C = true
 sa:PySem.W.findIn K (.ref C) "__setattr__" = some (some (.builtin "object.__setattr__"))
theorem Vq.get {K:PySem.W.Frag} {C:Addr} (c:Vq K C) (f:Str):PySem.W.plainGet K C f = true:=c.pg
def Eg (K:PySem.W.Frag) (C:Addr) (f:Str):Prop:=PySem.W.findIn K (.ref C) f = some none
theorem Eg.HZ {K:PySem.W.Frag} {C:Addr} {f:Str} (n:Eg K C f):PySem.W.takerIn K C f = some none:=by
 unfold PySem.W.takerIn
 rw [show PySem.W.findIn K (.ref C) f = some none from n]
 rfl
structure K4 (K:PySem.W.Frag) (C:Addr) (m:Str) (f:Addr):Prop where
 at_:PySem.W.findIn K (.ref C) m = some (some (.ref f))
 fn:PySem.W.isFn K (.ref f) = true
 kp:PySem.W.keepIn K (.ref f) = true
section
variable {X:Cx} {pins:List (Addr × Obj)} {σ:St} {H:Hp} {s:Shared} {a C dx:Addr} {fs:List (Str × V)} {f:Str} {v:V} {A:Around} {E:Value -> Shared -> Prop}
theorem Rh {b : Bool} {Q : Value -> Shared -> Prop} (I : Ai X pins σ H s) (e : H a = some (.ins C dx fs)) (c : Vq X.K C) (n : Eg X.K C f) (l : fs.lookup f = some v)
  (h:∀ u s',Ai X pins σ H s' -> B4 v u -> Q u s'):wpAny (model X.prog X.w) A (getAttr (.ref a) f b) Q E s:=by
 obtain ⟨mA,O,r,_,_,_⟩ := Jx I.aS e
 obtain ⟨u,hu,ru⟩ := Ey.some_of (v:=v) (o:=mA f) (by rw [<- l]; exact r f)
 exact Yt I.fQ O (c.get f) c.hd n hu (Um ru) (h u _ (I.tok _) ru)
theorem Ge {m : Str} {g : Addr} {pl : Sem Bool} {Q : Value × List Value -> Shared -> Prop} (I : Ai X pins σ H s) (e : H a = some (.ins C dx fs)) (c : Vq X.K C) (k : K4 X.K C m g) (l : fs.lookup m = none)
  (h:Q (.ref g,[.ref a]) s):wpAny (model X.prog X.w) A (getMethod (.ref a) m pl) Q E s:=by
 obtain ⟨mA,O,r,_,_,_⟩ := Jx I.aS e
 have hn:mA m = none:=Ey.none_of (by rw [<- l]; exact r m)
 exact Wo I.fQ O (c.get m) k.at_ k.fn hn h
theorem S5 {y : V} {u : Value} {Q : Unit -> Shared -> Prop} (I : Ai X pins σ H s) (e : H a = some (.ins C dx fs)) (c : Vq X.K C) (n : Eg X.K C f) (hl : fs.length < 1000) (ry : B4 y u)
  (h:∀ s',Ai X pins σ (upd H a (.ins C dx (Fo f y fs))) s' -> Q () s'):wpAny (model X.prog X.w) A (setAttr (.ref a) f u) Q E s:=by
 obtain ⟨mA,O,r,wi,_,ho⟩ := Jx I.aS e
 have hz:(fs.map (·.1)).length <= sizeLine:=by rw [List.length_map,sizeLine_eq]; omega
 refine Zk I.fQ O c.sa c.po n.HZ c.hd wi hz fun h' O' sb=>h _ ?_
 have hd:∃ o,h'.get? dx = some o:=let ⟨o,_,_,e',_⟩ := O'.ns; ⟨o,e'⟩
 refine I.write (x:=a) (e:=dx) (by rw [e]; exact True.intro) (.inr ho) (fun b q hb z=>(sb.2 b hb).trans z) hd ?_
 refine ⟨by rw [A8 O.ne]; exact ho,?_,O.ne,O'.obj,_,O'.ns,fun g=>?_,fun g hg=>?_⟩
 ·have:=Iz f y fs; omega
 ·show Ey ((Fo f y fs).lookup g) (if g = f then some u else mA g)
  rw [J0]
  by_cases q:g = f
  ·rw [if_pos q,if_pos q]; exact ry
  ·rw [if_neg q,if_neg q]; exact r g
 ·by_cases q:g = f
  ·rw [q]; exact (Ia f y fs).1
  ·refine (Ia f y fs).2 g (wi g fun z=>hg ?_)
   show (if g = f then some u else mA g) = none
   rw [if_neg q]; exact z
theorem Ai.made (I : Ai X pins σ H s) : Ai X pins σ (upd (upd H s.heap.objs.size (.own (s.heap.objs.size + 1))) (s.heap.objs.size + 1) (.ins C s.heap.objs.size []))
  { s with heap:=(s.heap.push PySem.W.emptyDict).push (PySem.W.instObj C s.heap.objs.size) }:=by
 have e1:(s.heap.push PySem.W.emptyDict).get? s.heap.objs.size = some PySem.W.emptyDict:=Heap.get?_push_size s.heap rfl
 have e2:((s.heap.push PySem.W.emptyDict).push (PySem.W.instObj C s.heap.objs.size)).get? (s.heap.objs.size + 1) = some (PySem.W.instObj C s.heap.objs.size):=by
  have:=Heap.get?_push_size (s.heap.push PySem.W.emptyDict) (o:=PySem.W.instObj C s.heap.objs.size) rfl
  rwa [Heap.size_push] at this
 have e3:(s.heap.push PySem.W.emptyDict).Ns s.heap.objs.size (fun _=>none):=⟨PySem.W.emptyDict,#[],_,e1,rfl,(fun e he=>absurd he (by simp)),fun _=>rfl⟩
 have I1:=I.laid (a:=s.heap.objs.size) (o := .own (s.heap.objs.size + 1)) (h':=s.heap.push PySem.W.emptyDict) (t':=s.toks) (fun b u q=>Heap.get?_push_of_some _ q) (Nat.le_refl _) ⟨_,e1⟩
 refine I1.laid (a:=s.heap.objs.size + 1) (o := .ins C s.heap.objs.size []) (t':=s.toks) (fun b u q=>Heap.get?_push_of_some _ q) (Nat.le_of_eq (Heap.size_push _ _)) ?_
 have ne:s.heap.objs.size ≠ s.heap.objs.size + 1:=Nat.ne_of_lt (Nat.lt_succ_self _)
 refine ⟨by rw [A8 ne,A1],Nat.zero_le _,ne,e2,fun _=>none,(Heap.Ns1.of_empty e3).at fun o q=>Heap.get?_push_of_some _ q,fun _=>True.intro,fun y hy=>absurd rfl hy⟩
theorem Yk {prog : Program} {w : World} {env : Env} {e : Expr} {f : Str} {pos : Pos} {s : Shared} {Q : Value -> Shared -> Prop} (hb : attributeBase e f env (eval e env) = eval e env)
  (h:wpAny (model prog w) A (eval e env) (fun o s₁=>wpAny (model prog w) A (getAttr o f true) Q E s₁) E s):wpAny (model prog w) A (eval (.Attribute e f pos) env) Q E s :=
 Attribute_any_ h (by rw [arm_eval_Attribute,hb])
end
def lz (K:PySem.W.Frag) (ta:TE) (f:Str):TE:=fun σ H Q=>ta σ H fun x H1=>∃ a C dx fs v,x = .ref a /\ H1 a = some (.ins C dx fs) /\ Vq K C /\ Eg K C f /\ fs.lookup f = some v /\ Q v H1
def lw (K:PySem.W.Frag) (ta tv:TE) (f:Str):TS:=fun D σ H=>tv σ H fun y H1=>ta σ H1 fun x H2=>∃ a C dx fs,x = .ref a /\ H2 a = some (.ins C dx fs) /\ Vq K C /\ Eg K C f /\ fs.length < 1000 /\
 D.nx σ (upd H2 a (.ins C dx (Fo f y fs)))
section
variable {X:Cx} {o e value:Expr} {f:Str} {pos pos' ot:Pos} {ta tv:TE}
theorem C4 (he:PE X e ta) (hb:attributeBase e f X.env (eval e X.env) = eval e X.env):PE X (.Attribute e f pos) (lz X.K ta f):=by
 intro pins s σ H Q I h
 refine Yk hb (Bv (he pins s σ H _ I h) fun u s1 dG=>?_)
 obtain ⟨x,H1,I1,rx,a,C,dx,fs,v,ex,ea,c,n,l,q⟩ := dG
 subst ex
 obtain rfl:u = Value.ref a:=rx
 exact Rh I1 ea c n l fun u' s2 I2 ru=>⟨v,H1,I2,ru,q⟩
theorem F3 (ha:PE X o ta) (hv:PE X value tv) (hs:swapsWith value (some (.Attribute o f pos')) pos.line X.env = pure false):PS X (.Assign [.Attribute o f pos'] value pos) (lw X.K ta tv f):=by
 intro pins s σ H D I h
 refine plainObj_wpAny_Assign_Attribute (Bv (hv pins s σ H _ I h) fun u s1 ⟨y,H1,I1,ry,q⟩=>Bv (ha pins s1 σ H1 _ I1 q) fun ov s2 ⟨x,H2,I2,rx,a,C,dx,fs,ex,ea,c,n,l,q2⟩=>?_) hs
 subst ex
 obtain rfl:ov = Value.ref a:=rx
 exact S5 I2 ea c n l ry fun s3 I3=>⟨σ,_,I3,q2⟩
end
section
variable {X:Cx} {pins:List (Addr × Obj)} {σ:St} {H:Hp} {s:Shared} {A:Around} {E:Value -> Shared -> Prop} {Q:Value -> Shared -> Prop} {c:Value} {b:Bool}
inductive Hr (K:PySem.W.Frag) (H:Hp):V -> Value -> Prop where
 | cZ:Hr K H .cZ (.type "NoneType")
 | bl (x:Bool):Hr K H (.bl x) (.type "bool")
 | int (i:Int):Hr K H (.int i) (.type "int")
 | str (x:Str):Hr K H (.str x) (.type "str")
 | vU (x:UInt64):Hr K H (.vU x) (.type "float")
 | lst {a:Addr} {xs:List V} (e:H a = some (.lst xs)):Hr K H (.ref a) (.type "list")
 | eM {a:Addr} {o:Obj} {xs:List V} (e:H a = some (.eM o (.lst xs))):Hr K H (.ref a) (.type "list")
 | tup {a:Addr} {xs:List V} (e:H a = some (.tup xs)):Hr K H (.ref a) (.type "tuple")
 | dK {a:Addr} {kvs:List (Dt × V)} (e:H a = some (.dK kvs)):Hr K H (.ref a) (.type "dict")
 | dT {a:Addr} {kvs:List ((List Int × Int) × V)} (e:H a = some (.dT kvs)):Hr K H (.ref a) (.type "dict")
 | ins {a C dx : Addr} {fs : List (Str × V)} (e : H a = some (.ins C dx fs)) (cl : Vq K C) (ha : PySem.W.findIn K (.ref C) "__class__" = some (some (.builtin "object.__class__")))
   (hn:PySem.W.specialIn K (.builtin "object.__class__") "__get__" = some (some (.builtin "getset_descriptor.__get__"))) (QR:PySem.W.takesIn K (.builtin "object.__class__") = some true)
   (hm:PySem.W.mroIn K C (.type "object") = some true):Hr K H (.ref a) (.ref C)
theorem Uq {x : V} {u t : Value} (I : Ai X pins σ H s) (rx : B4 x u) (ty : Hr X.K H x t) (e : PySem.W.kitOne X.K t c = some b) (h : ∀ tk, Q (.bool b) { s with toks := tk }) :
  wpAny (model X.prog X.w) A (call (.builtin "isinstance") [u,c]) Q E s:=by
 cases ty with
 | cZ=>cases (show u = Value.none from rx); exact PySem.W.kia_one PySem.W.kitx_none I.fQ True.intro e (fun z=>nomatch z) h
 | bl y=>cases (show u = Value.bool y from rx); exact PySem.W.kia_one PySem.W.kitx_bool I.fQ True.intro e (fun z=>nomatch z) h
 | int i=>obtain ⟨t,q⟩ := (show ∃ t,u = Value.int i t from rx); cases q; exact PySem.W.kia_one PySem.W.kitx_int I.fQ True.intro e (fun z=>nomatch z) h
 | str y=>obtain ⟨t,q⟩ := (show ∃ t,u = Value.str y t from rx); cases q; exact PySem.W.kia_one PySem.W.kitx_str I.fQ True.intro e (fun z=>nomatch z) h
 | vU y=>obtain ⟨t,q⟩ := (show ∃ t,u = Value.float y t from rx); cases q; exact PySem.W.kia_one PySem.W.kitx_float I.fQ True.intro e (fun z=>nomatch z) h
 | @lst a xs ea =>
  cases (show u = Value.ref a from rx)
  obtain ⟨_,_,n,_,h1⟩ := (show Bl X.prog X.w H s.heap a (.lst xs) from I.aS a _ ea)
  exact PySem.W.kia_one PySem.W.kitx_list I.fQ ⟨_,h1,rfl⟩ e (fun z=>nomatch z) h
 | @eM a ob xs ea =>
  cases (show u = Value.ref a from rx)
  obtain ⟨_,_,_,n,_,h1⟩ := (show Bl X.prog X.w H s.heap a (.eM ob (.lst xs)) from I.aS a _ ea)
  exact PySem.W.kia_one PySem.W.kitx_list I.fQ ⟨_,h1,rfl⟩ e (fun z=>nomatch z) h
 | @tup a xs ea =>
  cases (show u = Value.ref a from rx)
  obtain ⟨_,_,_,p⟩ := (show Bl X.prog X.w H s.heap a (.tup xs) from I.aS a _ ea)
  obtain ⟨o,h1,h2,_⟩ := p
  exact PySem.W.kia_one PySem.W.kitx_tuple I.fQ ⟨o,h1,h2⟩ e (fun z=>nomatch z) h
 | @dK a kvs ea =>
  cases (show u = Value.ref a from rx)
  obtain ⟨_,_,vs,_,p⟩ := (show Bl X.prog X.w H s.heap a (.dK kvs) from I.aS a _ ea)
  obtain ⟨o,es,ep,h1,h2,_⟩ := p
  exact PySem.W.kia_one PySem.W.kitx_dict I.fQ ⟨o,h1,h2.1⟩ e (fun z=>nomatch z) h
 | @dT a kvs ea =>
  cases (show u = Value.ref a from rx)
  obtain ⟨_,_,xs,_,o,es,ep,h1,h2,_⟩ := (show Bl X.prog X.w H s.heap a (.dT kvs) from I.aS a _ ea)
  exact PySem.W.kia_one PySem.W.kitx_dict I.fQ ⟨o,h1,h2.1⟩ e (fun z=>nomatch z) h
 | @ins a C dx fs ea cl ha hn QR hm =>
  cases (show u = Value.ref a from rx)
  obtain ⟨mA,O,_⟩ := Jx I.aS ea
  obtain ⟨od,J,_⟩ := O.look
  exact PySem.W.kia_one (PySem.W.kitx_own (cl.get _) cl.hd ha hn QR hm) I.fQ J e (fun z=>nomatch z) h
end
structure Cb (k:Nat) (A:Around):Prop where
 hd:A.handled = none
 dp:A.depth + 3 * k + 5 < recursionLimit
 un:A.units + 16 * k + 200 < cLine
theorem Cb.mono {j k:Nat} {A:Around} (r:Cb k A) (h:j <= k):Cb j A:=⟨r.hd,by have:=r.dp; omega,by have:=r.un; omega⟩
theorem Cb.deeper {k:Nat} {A:Around} (r:Cb (k + 1) A) (env:Env):Cb k (A.deeper env) :=
 ⟨r.hd,by have:=r.dp; show A.depth + 1 + 3 * k + 5 < _; omega,by have:=r.un; show A.units + 3 + 16 * k + 200 < _; omega⟩
theorem Rm {A:Around} {C:Addr} {us:List Value} {kw:List (Str × Value)}:(A.under (.builtin "type.__call__" ⟨.ref C :: us,kw⟩)).depth = A.depth + 1:=by
 first | rfl | simp [Around.under,Code.weight,Code.isCreation,Code.isGuard,Code.isCaller,Code.frames,Code.isFrame,guardIds]
theorem Rn {A:Around} {C:Addr} {us:List Value} {kw:List (Str × Value)}:(A.under (.builtin "type.__call__" ⟨.ref C :: us,kw⟩)).units = A.units + 1:=by
 first | rfl | simp [Around.under,Code.cUnits,Code.frames,Code.isFrame]
theorem Cb.make {k:Nat} {A:Around} (r:Cb (k + 1) A) (C:Addr) (us:List Value) (kw:List (Str × Value)):Cb k (A.under (.builtin "type.__call__" ⟨.ref C :: us,kw⟩)) :=
 ⟨r.hd,by have:=r.dp; rw [Rm]; omega,by have:=r.un; rw [Rn]; omega⟩
theorem Cb.depth {k:Nat} {A:Around} (r:Cb k A):A.depth < recursionLimit:=by have:=r.dp; omega
theorem Cb.units {k:Nat} {A:Around} (r:Cb k A):A.units + 64 < cLine:=by have:=r.un; omega
def g7:TA:=fun _ H Q=>Q [] H
def jr (ta:TE) (tr:TA):TA:=fun σ H Q=>ta σ H fun x H1=>tr σ H1 fun xs H2=>Q (x :: xs) H2
section
variable {X:Cx} {e:Expr} {es:List Expr} {te:TE} {t:TA} {pos:Pos}
theorem A3:PA X [] g7:=fun _ _ _ _ H Q I h=>Calls.spliced_nil ⟨[],H,I,.nil,h⟩
theorem A0 (ha:PE X e te) (hr:PA X es t) (hs:starEach (e :: es) X.env = (false,eval e X.env) :: starEach es X.env:=by rfl):PA X (e :: es) (jr te t):=by
 intro pos pins s σ H Q I h
 rw [hs]
 show wpAny _ _ (spliced ((false,eval e X.env) :: backTo pos (starEach es X.env))) _ _ s
 refine Calls.spliced_cons (Bv (ha pins s σ H _ I h) fun u s1 dG=>?_)
 obtain ⟨x,H1,I1,r1,q1⟩ := dG
 exact Bv (hr pos pins s1 σ H1 _ I1 q1) fun us s2 ⟨xs,H2,I2,r2,q2⟩=>⟨x :: xs,H2,I2,.cons r1 r2,q2⟩
def mm (t:TA):TE:=fun σ H Q=>t σ H fun xs H1=>xs.length <= sizeLine /\ ∀ p,H1 p = none -> Q (.ref p) (upd H1 p (.tup xs))
def ma (t:TA):TE:=fun σ H Q=>t σ H fun xs H1=>xs.length <= sizeLine /\ ∀ p,H1 p = none -> Q (.ref p) (upd H1 p (.lst xs))
theorem D0 {x1} (h:PA X es t):PE X (.Tuple es x1 pos) (mm t):=by
 intro pins s σ H Q I hq
 refine wpAny_Tuple_spliced (Bv (h pos pins s σ H _ I hq) fun us s1 ⟨xs,H1,I1,r,z,q⟩=>⟨by rw [<- r.length]; exact z,?_⟩)
 have hf:H1 s1.heap.objs.size = none:=I1.aS.fresh (Nat.le_refl _)
 refine ⟨.ref s1.heap.objs.size,upd H1 s1.heap.objs.size (.tup xs),I1.laid (t':=s1.toks) (fun b u e=>Heap.get?_push_of_some _ e) (Nat.le_refl _) ?_,rfl,q _ hf⟩
 exact ⟨⟨z,⟨_,Heap.get?_push_size _ rfl,rfl⟩⟩,us,r,⟨_,Heap.get?_push_size _ rfl,rfl,_,rfl⟩⟩
theorem Ck (h:PA X es t):PE X (.List es pos) (ma t):=by
 intro pins s σ H Q I hq
 refine wpAny_List_spliced (Bv (h pos pins s σ H _ I hq) fun us s1 ⟨xs,H1,I1,r,z,q⟩=>⟨by rw [<- r.length]; exact z,?_⟩)
 have hf:H1 s1.heap.objs.size = none:=I1.aS.fresh (Nat.le_refl _)
 refine ⟨.ref s1.heap.objs.size,upd H1 s1.heap.objs.size (.lst xs),I1.laid (t':=s1.toks) (fun b u e=>Heap.get?_push_of_some _ e) (Nat.le_refl _) ?_,rfl,q _ hf⟩
 exact ⟨z,us,0,r,Heap.get?_push_size _ rfl⟩
end
abbrev Sp:=List V -> Hp -> VK -> XK -> Prop
abbrev Vs:=List Env -> Hp -> Shared -> XK -> Value -> Shared -> Prop
structure R4 (P:Program) (w:World) (K:PySem.W.Frag) (mg:Str -> Option Value) (base:Heap) (A:Around) (outer:List Env) (s:Shared) (H:Hp):Prop where
 frames:A.frames = some outer
 mod:Mod K mg base
 bs:∀ b o,base.get? b = some o -> s.heap.get? b = some o /\ H b = none
 oX:base.objs.size <= s.heap.objs.size
 fU:s.heap.FunFrames base outer
 sI:∀ b ∈ gR outer,H b = none
 aS:Fh P w H s.heap
 bare:AllBare s.gens
def CE (outer:List Env) (P:Program) (w:World) (H:Hp) (s:Shared) (Q:VK) (u:Value) (s':Shared):Prop :=
 ∃ v H',s'.os = s.os /\ AllBare s'.gens /\ Un (gR outer) [] H H' s.heap s'.heap /\ Fh P w H' s'.heap /\ B4 v u /\ Q v H'
def CR (CX:Vs) (outer:List Env) (P:Program) (w:World) (H:Hp) (s:Shared) (Q:VK) (E:XK) (r:Result) (s':Shared):Prop :=
 match r with
 | .ok (.ret u)=>CE outer P w H s Q u s'
 | .ok _=>False
 | .error e=>CX outer H s E e s'
structure A9 (P:Program) (w:World) (K:PySem.W.Frag) (mg:Str -> Option Value) (base:Heap) (CX:Vs) (k:Nat) (f:Addr) (fd:FuncData) (ps:List Str) (sp:Sp):Prop where
 len:∀ vs H Q E,sp vs H Q E -> vs.length = ps.length
 run:∀ (A:Around) (outer:List Env) (s:Shared) (H:Hp) (args:Args) (us:List Value) (vs:List V) (Q:VK) (E:XK),Cb k A -> R4 P w K mg base A outer s H -> BindsTo s fd args (ps.zip us) -> B2 vs us -> sp vs H Q E ->
  codeAny (model P w) A (.call (.ref f) args) (CR CX outer P w H s Q E) s
theorem R4.make {P : Program} {w : World} {K : PySem.W.Frag} {mg : Str -> Option Value} {base : Heap} {A : Around} {outer : List Env} {s : Shared} {H : Hp} (e : R4 P w K mg base A outer s H) (C : Addr) (us : List Value) (kw : List (Str × Value)) :
  R4 P w K mg base (A.under (.builtin "type.__call__" ⟨.ref C :: us,kw⟩)) outer s H:=⟨by first | exact e.frames | (simpa [Around.under,Code.envs,Code.isFrame,pushEnvs] using e.frames),e.mod,e.bs,e.oX,e.fU,e.sI,e.aS,e.bare⟩
section
variable {X:Cx} {pins:List (Addr × Obj)} {σ:St} {H:Hp} {s s':Shared}
theorem Ai.vY (I:Ai X pins σ H s):R4 X.prog X.w X.K X.mg X.base X.A X.stack s H :=
 ⟨I.ok.frames,I.ok.mod,I.bs,Nat.le_trans I.ok.oX I.sz,I.stack,I.fI,I.aS,I.bare⟩
theorem Ai.after {Q:VK} {u:Value} (I:Ai X pins σ H s) (h:CE X.stack X.prog X.w H s Q u s'):EP X pins σ Q u s':=by
 obtain ⟨v,H',os,bare,un,aS,r,q⟩ := h
 obtain ⟨hh,g,d,t,os'⟩ := s'
 obtain rfl:os' = s.os:=os
 exact ⟨v,H',I.call (h':=hh) (g':=g) (d':=d) (t':=t) (ch:=[]) un aS bare (fun b z=>absurd z (by simp)),r,q⟩
end
def jp (sp:Sp) (fJ:List V) (E:XK) (t:TA):TE:=fun σ H Q=>t σ H fun vs H1=>sp (vs ++ fJ) H1 Q E
def a8 (C:Addr) (m:Str) (sp:Sp) (fJ:List V) (E:XK) (ta:TE) (t:TA):TE:=fun σ H Q=>ta σ H fun x H1=>∃ a dx fs,x = .ref a /\ H1 a = some (.ins C dx fs) /\ fs.lookup m = none /\
 t σ H1 fun vs H2=>sp (x :: (vs ++ fJ)) H2 Q E
def jv (C:Addr) (sp:Sp) (fJ:List V) (E:XK) (t:TA):TE:=fun σ H Q=>t σ H fun vs H1=>∀ x dx,H1 x = none -> H1 dx = none -> dx ≠ x ->
 sp (.ref x :: (vs ++ fJ)) (upd (upd H1 dx (.own x)) x (.ins C dx [])) (fun v H2=>v = .cZ /\ Q (.ref x) H2) E
def Ah (K:PySem.W.Frag) (fd:FuncData) (ps:List Str) (ds:List Value):Prop :=
 ∀ (s:Shared) (us:List Value),K.In s.heap -> (us ++ ds).length = ps.length -> BindsTo s fd ⟨us,[]⟩ (ps.zip (us ++ ds))
theorem Ah.all {K:PySem.W.Frag} {fd:FuncData} {ps:List Str} (h:∀ us:List Value,us.length = ps.length -> bindArgs fd ⟨us,[]⟩ = pure (ps.zip us)):Ah K fd ps []:=fun s us _ hl=>by
 rw [List.append_nil] at hl ⊢
 exact .of_eq (h us hl)
def Gb (CX:Vs) (X:Cx) (E:XK):Prop := ∀ (pins:List (Addr × Obj)) (σ:St) (H:Hp) (s:Shared) (e:Value) (s':Shared),Ai X pins σ H s -> CX X.stack H s E e s' -> X.xe e s'
section
variable {X:Cx} {CX:Vs} {k:Nat} {f C:Addr} {fd:FuncData} {ps:List Str} {sp:Sp} {fJ:List V} {ds:List Value} {E:XK} {x m:Str} {p pos apos:Pos} {e o:Expr} {es:List Expr} {ta:TE} {t:TA}
theorem S2 {pins : List (Addr × Obj)} {σ : St} {H : Hp} {s : Shared} {Q : VK} {us : List Value} {vs : List V} (F : A9 X.prog X.w X.K X.mg X.base CX k f fd ps sp) (hr : Cb k X.A) (hb : Ah X.K fd ps ds) (hd : B2 fJ ds) (hx : Gb CX X E)
  (I:Ai X pins σ H s) (r:B2 vs us) (h:sp (vs ++ fJ) H Q E):wpAny (model X.prog X.w) X.A (call (.ref f) us) (EP X pins σ Q) X.xe s:=by
 have r2:B2 (vs ++ fJ) (us ++ ds):=r.append hd
 have hl:(us ++ ds).length = ps.length:=by rw [<- r2.length]; exact F.len _ _ _ _ h
 refine wpAny_call (codeAny_mono (F.run X.A X.stack s H ⟨us,[]⟩ (us ++ ds) (vs ++ fJ) Q E hr I.vY (hb s us I.fQ hl) r2 h) fun r s' hq=>?_)
 cases r with
 | error e=>exact hx pins σ H s e s' I hq
 | ok fl =>
  cases fl with
  | ret u=>exact I.after hq
  | next=>exact False.elim hq
  | brk=>exact False.elim hq
  | cont=>exact False.elim hq
theorem Ad (F : A9 X.prog X.w X.K X.mg X.base CX k f fd ps sp) (hr : Cb k X.A) (hg : Gl X x) (hm : X.mg x = some (.ref f)) (hk : PySem.W.keepIn X.K (.ref f) = true) (hb : Ah X.K fd ps ds) (hd : B2 fJ ds) (hx : Gb CX X E)
  (ha:PA X (e :: es) t) (mE:(x == ("__debug__" : Str)) = false:=by decide) (he:starEach (e :: es) X.env = (false,eval e X.env) :: starEach es X.env:=by rfl) (nK:(backTo pos (starEach es X.env)).any (·.1) = false:=by rfl) :
  PE X (.Call (.Name x p) (e :: es) [] pos) (jp sp fJ E t):=by
 intro pins s σ H Q I h
 refine wpAny_Call_Name_kw (Gv I hg hm ?_ mE)
 refine PySem.W.callWith_K (h₀:=X.base) I.ok.mod.eO hk (Bv (ha pos pins s σ H _ I h) fun us s1 ⟨vs,H1,I1,r,q⟩=>⟨I1.fQ,?_⟩) he nK
 exact S2 F hr hb hd hx I1 r q
theorem Jy {pl : Sem Bool} (he : PE X o ta) (c : Vq X.K C) (hm : K4 X.K C m f) (F : A9 X.prog X.w X.K X.mg X.base CX k f fd ps sp) (hr : Cb k X.A) (hb : Ah X.K fd ps ds) (hd : B2 fJ ds) (hx : Gb CX X E) (ha : PA X (e :: es) t)
  (eP:starEach (e :: es) X.env = (false,eval e X.env) :: starEach es X.env:=by rfl) (nK:(backTo pos (starEach es X.env)).any (·.1) = false:=by rfl)
  (ht:eval (.Call (.Attribute o m apos) (e :: es) [] pos) X.env = (do
   let ov <- eval o X.env
   standAt apos.atName
   let (f,first) <- holding [ov] (getMethod ov m pl)
   callWith pos f first (backTo pos (starEach (e :: es) X.env)) (backToKw pos (keywordEach [] X.env))):=by rfl) :
  PE X (.Call (.Attribute o m apos) (e :: es) [] pos) (a8 C m sp fJ E ta t):=by
 intro pins s σ H Q I h
 refine PySem.W.methodCall_KW (pl:=pl) (Bv (he pins s σ H _ I h) fun u s1 ⟨x,H1,I1,rx,a,dx,fs,ex,ea,l,q⟩=>?_) ht
 subst ex
 obtain rfl:u = Value.ref a:=rx
 refine Ge I1 ea c hm l ?_
 refine PySem.W.callWith_K (first:=[.ref a]) (h₀:=X.base) I.ok.mod.eO hm.kp (Bv (ha pos pins s1 σ H1 _ I1 q) fun us s2 ⟨vs,H2,I2,r,q2⟩=>⟨I2.fQ,?_⟩) eP nK
 exact S2 (us := .ref a :: us) (vs := .ref a :: vs) F hr hb hd hx I2 (.cons rfl r) q2
theorem Xg {pl : Sem Bool} (he : PE X o ta) (c : Vq X.K C) (hm : K4 X.K C m f) (F : A9 X.prog X.w X.K X.mg X.base CX k f fd ps sp) (hr : Cb k X.A) (hb : Ah X.K fd ps ds) (hd : B2 fJ ds) (hx : Gb CX X E)
  (ht:eval (.Call (.Attribute o m apos) [] [] pos) X.env = (do
   let ov <- eval o X.env
   standAt apos.atName
   let (f,first) <- holding [ov] (getMethod ov m pl)
   callWith pos f first (backTo pos (starEach [] X.env)) (backToKw pos (keywordEach [] X.env))):=by rfl) :
  PE X (.Call (.Attribute o m apos) [] [] pos) (a8 C m sp fJ E ta g7):=by
 intro pins s σ H Q I h
 refine PySem.W.methodCall_KW (pl:=pl) (Bv (he pins s σ H _ I h) fun u s1 ⟨x,H1,I1,rx,a,dx,fs,ex,ea,l,q⟩=>?_) ht
 subst ex
 obtain rfl:u = Value.ref a:=rx
 refine Ge I1 ea c hm l ?_
 exact PySem.W.callWith_K0 (first:=[.ref a]) I1.fQ hm.kp (S2 (us:=[.ref a]) (vs:=[.ref a]) F hr hb hd hx I1 (.cons rfl .nil) q)
structure Mk (K:PySem.W.Frag) (C f:Addr):Prop where
 makes:PySem.W.makesIn K C = true
 init:PySem.W.findIn K (.ref C) "__init__" = some (some (.ref f))
 fn:PySem.W.isFn K (.ref f) = true
 kp:PySem.W.keepIn K (.ref C) = true
theorem Xq {pins : List (Addr × Obj)} {σ : St} {H : Hp} {s : Shared} {Q : VK} {us : List Value} {vs : List V} (M : Mk X.K C f) (F : A9 X.prog X.w X.K X.mg X.base CX k f fd ps sp) (hr : Cb (k + 1) X.A) (hb : Ah X.K fd ps ds) (hd : B2 fJ ds)
  (hx:Gb CX X E) (I:Ai X pins σ H s) (r:B2 vs us)
  (h:∀ x dx,H x = none -> H dx = none -> dx ≠ x -> sp (.ref x :: (vs ++ fJ)) (upd (upd H dx (.own x)) x (.ins C dx [])) (fun v H2=>v = .cZ /\ Q (.ref x) H2) E) :
  wpAny (model X.prog X.w) X.A (call (.ref C) us) (EP X pins σ Q) X.xe s:=by
 have hq:=h (s.heap.objs.size + 1) s.heap.objs.size (I.aS.fresh (Nat.le_succ _)) (I.aS.fresh (Nat.le_refl _)) (Nat.ne_of_lt (Nat.lt_succ_self _))
 have I2:=Ai.made (C:=C) I
 have r2:B2 (V.ref (s.heap.objs.size + 1) :: (vs ++ fJ)) (Value.ref (s.heap.objs.size + 1) :: (us ++ ds)) := .cons rfl (r.append hd)
 have hl:(Value.ref (s.heap.objs.size + 1) :: us ++ ds).length = ps.length:=by
  have e:=r2.length
  rw [F.len _ _ _ _ hq] at e
  exact e.symm
 refine wpAny_call (X0 (f:=f) I.fQ M.makes M.init (beq_iff_eq.mp M.fn) (codeAny_mono (F.run _ X.stack _ _ ⟨Value.ref (s.heap.objs.size + 1) :: us,[]⟩ (Value.ref (s.heap.objs.size + 1) :: (us ++ ds)) _ _ E (hr.make C us [])
  (I2.vY.make C us []) (hb _ (Value.ref (s.heap.objs.size + 1) :: us) I2.fQ hl) r2 hq) fun r s' IA=>?_))
 cases r with
 | error e=>exact hx pins σ _ _ e s' I2 IA
 | ok fl =>
  cases fl with
  | ret u =>
   obtain ⟨v,H',I3,rv,ev,q3⟩ := I2.after IA
   subst ev
   exact ⟨rv,⟨V.ref (s.heap.objs.size + 1),H',I3,rfl,q3⟩⟩
  | next=>exact False.elim IA
  | brk=>exact False.elim IA
  | cont=>exact False.elim IA
theorem Qo (M : Mk X.K C f) (F : A9 X.prog X.w X.K X.mg X.base CX k f fd ps sp) (hr : Cb (k + 1) X.A) (hg : Gl X x) (hm : X.mg x = some (.ref C)) (hb : Ah X.K fd ps ds) (hd : B2 fJ ds) (hx : Gb CX X E)
  (mE:(x == ("__debug__" : Str)) = false:=by decide):PE X (.Call (.Name x p) [] [] pos) (jv C sp fJ E g7):=by
 intro pins s σ H Q I h
 refine wpAny_Call_Name_kw (Gv I hg hm ?_ mE)
 exact PySem.W.callWith_K0 I.fQ M.kp (Xq (us:=[]) M F hr hb hd hx I .nil h)
end
section
variable {X:Cx} {CX:Vs} {k:Nat} {f C:Addr} {fd:FuncData} {ps ks:List Str} {sp:Sp} {E:XK} {x m:Str} {p pos apos SU:Pos} {e o:Expr} {es:List Expr} {kws:List Keyword} {te ta:TE} {t tk:TA} {nm:Option Str}
variable {g:List Value -> List Value -> List Value} {gV:List V -> List V -> List V}
end
structure Aj (N P:List Str) (sc:Scope):Prop where
 kind:sc.kind = .function
 co:sc.isCoroutine = false
 gen:sc.isGenerator = false
 nd:N.Nodup
 pre:N.take P.length = P
 par:∀ x ∈ P,sc.names.lookup x = some .local \/ sc.names.lookup x = some .cell
 vZ:∀ y ∈ sc.names,y.2 ≠ .free
theorem M9 {kindOf:Str -> Option NameKind} {x:Str}:∀ {binds:List (Str × Value)} {m:Str -> Option Value},(∀ v,(x,v) ∉ binds) -> bindL kindOf binds m x = m x
 | [],_,_=>rfl
 | (n,v) :: r,m,h=>by
  unfold bindL
  rw [M9 fun w hw=>h w (List.mem_cons_of_mem _ hw)]
  split
  ·have:x ≠ n:=by rintro rfl; exact h v List.mem_cons_self
   simp [this]
  ·rfl
theorem M7 {kindOf:Str -> Option NameKind} {x:Str}:∀ {binds:List (Str × Value)} {m:Str -> Option Value},(∀ v,(x,v) ∉ binds) -> bindC kindOf binds m x = m x
 | [],_,_=>rfl
 | (n,v) :: r,m,h=>by
  unfold bindC
  rw [M7 fun w hw=>h w (List.mem_cons_of_mem _ hw)]
  split
  ·rfl
  ·have:x ≠ n:=by rintro rfl; exact h v List.mem_cons_self
   simp [this]
theorem M8 {kindOf : Str -> Option NameKind} {x : Str} {v : Value} : ∀ {P : List Str} {vs : List Value} {i : Nat} {m : Str -> Option Value}, P.Nodup -> P[i]? = some x -> vs[i]? = some v -> kindOf x = some .local ->
  bindL kindOf (P.zip vs) m x = some v
 | [],_,_,_,_,h,_,_=>by simp at h
 | _ :: _,[],_,_,_,_,h,_=>by simp at h
 | p :: P,w :: vs,0,m,nd,h1,h2,hk=>by
  simp at h1 h2; subst h1; subst h2
  show bindL kindOf ((p,w) :: P.zip vs) m p = _
  unfold bindL
  rw [M9 fun v hv=>(List.nodup_cons.mp nd).1 (List.of_mem_zip hv).1,if_pos hk]
  simp
 | p :: P,w :: vs,i + 1,m,nd,h1,h2,hk=>by
  show bindL kindOf ((p,w) :: P.zip vs) m x = _
  unfold bindL
  exact M8 (i:=i) (List.nodup_cons.mp nd).2 (by simpa using h1) (by simpa using h2) hk
theorem M6 {kindOf : Str -> Option NameKind} {x : Str} {v : Value} : ∀ {P : List Str} {vs : List Value} {i : Nat} {m : Str -> Option Value}, P.Nodup -> P[i]? = some x -> vs[i]? = some v -> kindOf x ≠ some .local ->
  bindC kindOf (P.zip vs) m x = some v
 | [],_,_,_,_,h,_,_=>by simp at h
 | _ :: _,[],_,_,_,_,h,_=>by simp at h
 | p :: P,w :: vs,0,m,nd,h1,h2,hk=>by
  simp at h1 h2; subst h1; subst h2
  show bindC kindOf ((p,w) :: P.zip vs) m p = _
  unfold bindC
  rw [M7 fun v hv=>(List.nodup_cons.mp nd).1 (List.of_mem_zip hv).1,if_neg hk]
  simp
 | p :: P,w :: vs,i + 1,m,nd,h1,h2,hk=>by
  show bindC kindOf ((p,w) :: P.zip vs) m x = _
  unfold bindC
  exact M6 (i:=i) (List.nodup_cons.mp nd).2 (by simpa using h1) (by simpa using h2) hk
def start (N:List Str) (vs:List V):St:=vs.map some ++ List.replicate (N.length - vs.length) none
def Fg (CX:Vs) (P:Program) (w:World) (K:PySem.W.Frag) (mg:Str -> Option Value) (base:Heap) (N:List Str) (qual:Str) (scope:Scope) (f:Addr) (cd:Value) (A:Around) (outer:List Env) (s:Shared) (H:Hp) (E:XK):Cx where
 prog:=P
 w:=w
 K:=K
 mg:=mg
 base:=base
 A:=A.deeper (envOfC qual scope s.heap.objs.size f cd)
 N:=N
 s₀:=s
 H₀:=H
 env:=envOfC qual scope s.heap.objs.size f cd
 outer:=outer
 stack:=envOfC qual scope s.heap.objs.size f cd :: outer
 ex:=[]
 calm:=true
 fn:=fun _=>true
 pn:=[]
 xe:=fun e s'=>wpAny (model P w) (A.deeper (envOfC qual scope s.heap.objs.size f cd)) (leaving (envOfC qual scope s.heap.objs.size f cd) e) (fun _ SW=>CX outer H s E e SW) (fun e' SW=>CX outer H s E e' SW) s'
theorem Pn {sc:Scope} {n:Nat} {x:Str} (h:sc.names.lookup x = some .cell):∃ c,(cellsFrom n sc.names []).lookup x = some c:=by
 have q:=PySem.W.cellsFrom_some sc.names n [] (.inl h)
 exact Option.isSome_iff_exists.mp q
theorem Up {CX : Vs} {P : Program} {w : World} {K : PySem.W.Frag} {mg : Str -> Option Value} {base : Heap} {N ps : List Str} {qual : Str} {scope : Scope} {f : Addr} {cd : Value} {A : Around} {outer : List Env} {s s1 : Shared} {H : Hp} {E : XK} {us : List Value} {vs : List V}
  (S:Aj N ps scope) (hd:A.handled = none) (e0:R4 P w K mg base A outer s H) (hl:vs.length = ps.length) (r:B2 vs us)
  (x:InCallC s s.heap.objs.size (bindL (envOfC qual scope s.heap.objs.size f cd).kindOf (ps.zip us) fun _=>none) (cellsFrom (s.heap.objs.size + 1) scope.names []) (bindC (envOfC qual scope s.heap.objs.size f cd).kindOf (ps.zip us) fun _=>none) s1) :
  Ai (Fg CX P w K mg base N qual scope f cd A outer s H E) [] (start N vs) H s1:=by
 have nK:ps.length <= N.length:=by have:=congrArg List.length S.pre; rw [List.length_take] at this; omega
 obtain ⟨h1,tk,rfl,hk⟩ := x.done
 have IB:∀ b:Addr,b ∉ (Fg CX P w K mg base N qual scope f cd A outer s H E).ex:=fun b z=>absurd (show b ∈ ([]:List Addr) from z) (by simp)
 refine ⟨⟨e0.mod,S.kind,rfl,rfl,Nat.le_refl _,fun y z c h1 h2=>?_,fun y hy=>?_,fun y c _ h=>?_,fun _=>hd,Around.frames_deeper e0.frames,.inr ⟨rfl,rfl⟩,fun b z=>absurd z (IB b),e0.bs,e0.oX,fun b _ _=>IB b,fun b z=>absurd z (IB b),e0.fU,e0.sI⟩,
  rfl,e0.bare,Un.kept hk,⟨_,x.toInCall.ns,fun i y v h1 h2 h3=>?_⟩,fun y c h=>⟨_,x.cell y c h⟩,e0.aS.fresh (Nat.le_refl _),fun y c h=>?_,fun p hp=>absurd (show p ∈ ([]:List (Addr × Obj)) from hp) (by simp),e0.aS.kept hk,?_⟩
 ·exact name_of_addr x.apart (PySem.mem_of_lookup h1) (PySem.mem_of_lookup h2)
 ·have hy:scope.names.lookup y = some .cell \/ scope.names.lookup y = some .free:=hy
  rcases hy with hy | hy
  ·exact Pn hy
  ·exact absurd rfl (S.vZ _ (PySem.mem_of_lookup hy))
 ·exact Nat.le_of_lt (x.above y c (PySem.mem_of_lookup h))
 ·have hi : i < vs.length := by
   unfold start at h2
   by_cases hi:i < vs.length
   ·exact hi
   ·rw [List.getElem?_append_right (by simpa using hi)] at h2
    rw [List.getElem?_replicate] at h2
    split at h2 <;> cases h2
  have ha:vs[i]? = some v:=by
   unfold start at h2
   rw [List.getElem?_append_left (by simpa using hi),List.getElem?_map] at h2
   cases e:vs[i]? with
   | none=>rw [e] at h2; cases h2
   | some a=>rw [e] at h2; cases h2; rfl
  obtain ⟨u,hu,rv⟩ := r.get ha
  have hp:ps[i]? = some y:=by
   rw [<- S.pre,List.getElem?_take_of_lt (by omega)]; exact h1
  have ndP:ps.Nodup:=by rw [<- S.pre]; exact S.nd.sublist (List.take_sublist _ _)
  refine ⟨u,rv,?_⟩
  rcases S.par y (List.mem_of_getElem? hp) with k | k
  ·exact .inl ⟨k,M8 ndP hp hu k⟩
  ·obtain ⟨c,e⟩ := Pn (n:=s.heap.objs.size + 1) k
   refine .inr ⟨.inl k,c,e,?_⟩
   have q:=x.cell y c e
   rw [M6 ndP hp hu (by show scope.names.lookup y ≠ _; rw [k]; decide)] at q
   exact q
 ·exact e0.aS.fresh (Nat.le_of_lt (x.above y c (PySem.mem_of_lookup h)))
 ·unfold start
  show _ = N.length
  rw [List.length_append,List.length_map,List.length_replicate]
  omega
theorem Zu {CX : Vs} {P : Program} {w : World} {K : PySem.W.Frag} {mg : Str -> Option Value} {base : Heap} {k : Nat} {f : Addr} {name qual : Str} {params : Arguments} {body : List Stmt} {scope : Scope} {dV kV doc pm dB ct oc : Value} {an od : Option Addr}
  {lG:Array (Option Value)} {N ps:List Str} {sp:Sp} (lk:K.lookup f = some ⟨oc,od,.func (PySem.W.fnOf name qual params body scope dV kV doc pm an dB ct),lG⟩) (oY:PySem.W.codeIn K dB qual = true) (S:Aj N ps scope)
  (len:∀ vs H Q E,sp vs H Q E -> vs.length = ps.length)
  (iP:∀ (A:Around) (outer:List Env) (s:Shared) (H:Hp) (vs:List V) (Q:VK) (E:XK),Cb k (A.deeper (envOfC qual scope s.heap.objs.size f dB)) -> sp vs H Q E ->
   ∃ t,M5 (Fg CX P w K mg base N qual scope f dB A outer s H E) body t /\ t { nx:=fun _ H'=>Q .cZ H',rt:=Q } (start N vs) H) :
  A9 P w K mg base CX (k + 1) f (PySem.W.fnOf name qual params body scope dV kV doc pm an dB ct) ps sp:=by
 refine ⟨len,fun A outer s H args us vs Q E hr e0 hb r nL=>?_⟩
 have hl:=len _ _ _ _ nL
 have KX:K.In s.heap:=e0.mod.eO.keeps fun b o e=>(e0.bs b o e).1
 have lim:s.heap.NoLimit:=e0.mod.nolimit.keeps fun b o e=>(e0.bs b o e).1
 have IC:∀ y ∈ ps.zip us,scope.names.lookup y.1 = some .local \/ (scope.names.lookup y.1 = some .cell /\ ((cellsFrom (s.heap.objs.size + 1) scope.names []).lookup y.1).isSome = true):=fun ⟨n,v⟩ hy=>by
  rcases S.par n (List.of_mem_zip hy).1 with q | q
  ·exact .inl q
  ·exact .inr ⟨q,PySem.W.cellsFrom_some _ _ _ (.inl q)⟩
 refine codeAny_call_function hr.depth (KX _ _ lk) rfl S.co S.gen rfl (PySem.W.codeRec_of KX oY) (hb _ _ _ _ ?_)
 refine wpAny_newFunctionEnv_cells S.kind IC fun env he s1 x=>?_
 subst he
 refine ⟨lim.keeps x.toInCall.keep,codeAny_func ?_⟩
 obtain ⟨t,ht,hq⟩ := iP A outer s H vs Q E (hr.deeper _) nL
 have I:Ai (Fg CX P w K mg base N qual scope f dB A outer s H E) [] (start N vs) H s1:=Up S hr.hd e0 hl r x
 refine wpAny_mono (ht [] s1 (start N vs) H _ I hq) (fun fl s' hs=>?_) fun e s' hs=>hs
 have fin:∀ {σ':St} {H':Hp} {v:V} {u:Value},Ai (Fg CX P w K mg base N qual scope f dB A outer s H E) [] σ' H' s' -> B4 v u -> Q v H' -> CE outer P w H s Q u s' :=
  fun {σ' H' v u} J rv q=>⟨v,H',J.os,J.bare,J.base,J.aS,rv,q⟩
 cases fl with
 | ret u =>
  obtain ⟨v,σ',H',J,rv,q⟩ := hs
  exact fin J rv q
 | next =>
  obtain ⟨σ',H',J,q⟩ := hs
  exact fin (v:=V.cZ) (u:=Value.none) J rfl q
 | brk =>
  obtain ⟨_,_,_,q⟩ := hs
  exact False.elim q
 | cont =>
  obtain ⟨_,_,_,q⟩ := hs
  exact False.elim q
section
variable {X:Cx} {x:Str} {p pos:Pos} {e:Expr} {es:List Expr} {t:TA} {id T:String} {r:List V -> Hp -> VK -> Prop}
def mq (r:List V -> Hp -> VK -> Prop) (t:TA):TE:=fun σ H Q=>t σ H fun vs H1=>r vs H1 Q
theorem Ap (hc : D2 X (.builtin id) r) (hg : Gl X x) (hm : X.mg x = none) (hv : bootBuiltins x = some (.builtin id)) (ha : PA X (e :: es) t) (hn : x ≠ "__name__" := by decide) (mE : (x == ("__debug__" : Str)) = false := by decide)
  (he:starEach (e :: es) X.env = (false,eval e X.env) :: starEach es X.env:=by rfl) (nK:(backTo pos (starEach es X.env)).any (·.1) = false:=by rfl):PE X (.Call (.Name x p) (e :: es) [] pos) (mq r t):=by
 intro pins s σ H Q I h
 refine wpAny_Call_Name_kw (Ib I hg hm hv ?_ hn mE)
 exact PyProof.Rows.callWith_builtin1 (Bv (ha pos pins s σ H _ I h) fun us s1 ⟨vs,H1,I1,r1,q1⟩=>hc pins s1 σ H1 vs us Q I1 r1 q1) he nK
theorem Bg (hc : D2 X (.type T) r) (hg : Gl X x) (hm : X.mg x = none) (hv : bootBuiltins x = some (.type T)) (ha : PA X (e :: es) t) (hn : x ≠ "__name__" := by decide) (mE : (x == ("__debug__" : Str)) = false := by decide)
  (he:starEach (e :: es) X.env = (false,eval e X.env) :: starEach es X.env:=by rfl) (nK:(backTo pos (starEach es X.env)).any (·.1) = false:=by rfl):PE X (.Call (.Name x p) (e :: es) [] pos) (mq r t):=by
 intro pins s σ H Q I h
 refine wpAny_Call_Name_kw (Ib I hg hm hv ?_ hn mE)
 exact PyProof.Rows.callWith_type1 (Bv (ha pos pins s σ H _ I h) fun us s1 ⟨vs,H1,I1,r1,q1⟩=>hc pins s1 σ H1 vs us Q I1 r1 q1) he nK
end
end L2
namespace HT
local macro_rules | `(tactic| omega) => `(tactic| lia)
open PySem PyProof.Rows
section
open PySem.SeqAt
open PySem.AutoSeq1 (wpAny_loadPart')
open PySem.MeetsSeq PySem.MeetsSeq2 PySem.MeetsSeq3
end
section
variable {prog:Program} {w:World} {A:Around} {E:Value -> Shared -> Prop} {s:Shared}
theorem sO {t b : Addr} {vs ws : List Value} {Q : Value -> Shared -> Prop} (ht : IsTup s.heap t vs.toArray) (hb : IsTup s.heap b ws.toArray) (hv : vs ≠ [])
  (h1:ws = [] -> Q (.ref t) s) (h2:ws ≠ [] -> Q (.ref s.heap.objs.size) { s with heap:=s.heap.push { cls := .type "tuple",data := .seq (vs ++ ws).toArray } })
  (hsz:vs.length + ws.length <= sizeLine):wpAny (model prog w) A (binaryOp .Add (.ref t) (.ref b)) Q E s:=by
 obtain ⟨⟨cls,dd,data,sl⟩,ho,hc,n,hd⟩ := id ht
 obtain ⟨⟨cls2,GL,data2,GN⟩,w4,sP,n2,hd2⟩ := id hb
 simp only at hc hd sP hd2
 subst hc hd sP hd2
 have e:vs.toArray ++ ws.toArray = (vs ++ ws).toArray:=by simp
 by_cases hw:ws = []
 ·exact concat_meets ⟨_, ho, rfl⟩ ⟨_, w4, rfl⟩ noFill_tuple_add seq_tuple_add PySem.F.slot_tuple_add PySem.F.entry_tuple_add (PySem.F.args_tuple_add_2 _ _)
   (tuple_addW1 t b vs.toArray ws.toArray n n2 dd GL sl GN (by simpa using hv) (by simp [hw])) ⟨ho,w4,h1 hw⟩
 ·refine concat_meets ⟨_, ho, rfl⟩ ⟨_, w4, rfl⟩ noFill_tuple_add seq_tuple_add PySem.F.slot_tuple_add PySem.F.entry_tuple_add (PySem.F.args_tuple_add_2 _ _)
   (tuple_addW2 t b vs.toArray ws.toArray n n2 dd GL sl GN (by simpa using hv) (by simpa using hw) (by rw [List.size_toArray,List.size_toArray]; exact hsz)) ⟨ho,w4,?_⟩
  rw [e]
  exact h2 hw
def gN (n d:Nat):Option Int -> Nat
 | none=>d
 | some v=>if v < 0 then (v + (n:Int)).toNat else min v.toNat n
theorem iQ (n d:Nat):gN n d none = d:=rfl
theorem sQ (n d k:Nat):gN n d (some (k:Int)) = min k n:=by
 show (if (k:Int) < 0 then ((k:Int) + (n:Int)).toNat else min (k:Int).toNat n) = min k n
 rw [if_neg (by omega),Int.toNat_natCast]
end
end HT
namespace L2
local macro_rules | `(tactic| omega) => `(tactic| lia)
open PySem PySem.Spec PyProof.Rows
abbrev TO:=St -> Hp -> (Option Int -> Hp -> Prop) -> Prop
def PO (X:Cx) (e:Option Expr) (t:TO):Prop :=
 ∀ (pins:List (Addr × Obj)) (s:Shared) (σ:St) (H:Hp) (Q:Option Int -> Hp -> Prop),Ai X pins σ H s -> t σ H Q ->
  wpAny (model X.prog X.w) X.A (evalPart e X.env) (fun u s'=>∃ o H',Ai X pins σ H' s' /\ IsPart u o /\ Q o H') X.xe s
def Zo:TO:=fun _ H Q=>Q none H
def jx (t:TE):TO:=fun σ H Q=>t σ H fun x H1=>∃ i,x = .int i /\ Q (some i) H1
theorem Kk {ns:List Int}:∀ {us:List Value},B2 (ns.map V.int) us -> IntsAre us ns:=by
 induction ns with
 | nil=>intro us r; rw [List.map_nil] at r; cases r; exact .nil
 | cons n ns ih =>
  intro us r
  rw [List.map_cons] at r
  cases r with
  | cons r1 r2 =>
   obtain ⟨t,e⟩ := r1
   subst e
   exact .cons n t (ih r2)
section
variable {X:Cx} {e:Expr} {te:TE} {lo hi:Option Expr} {tl th:TO} {pos p2:Pos}
theorem Oi:PO X none Zo:=by
 intro pins s σ H Q I h
 rw [evalPart_none]
 exact wpAny_pure ⟨none,H,I,.none,h⟩
theorem F2 (h:PE X e te):PO X (some e) (jx te):=by
 intro pins s σ H Q I hw
 rw [evalPart_some]
 refine Bv (h pins s σ H _ I hw) fun u s1 dG=>?_
 obtain ⟨x,H1,I1,r1,q1⟩ := dG
 obtain ⟨i,rfl,q⟩ := q1
 obtain ⟨t,rfl⟩ := r1
 exact ⟨some i,H1,I1,.int i t,q⟩
def kx (X:Cx) (r:V -> Option Int -> Option Int -> Hp -> VK -> Prop):Prop :=
 ∀ (pins:List (Addr × Obj)) (s:Shared) (σ:St) (H:Hp) (x:V) (v vl vu:Value) (lo hi:Option Int) (sl:Addr) (Q:VK),Ai X pins σ H s -> B4 x v -> s.heap.IsSliceOf sl vl vu .none -> IsPart vl lo -> IsPart vu hi -> r x lo hi H Q ->
  ∃ T id,typeLookup (.type T) "__getitem__" = pure (some (.builtin id)) /\ s.TypeIs v T /\ wpAny (model X.prog X.w) X.A (getItem v (.ref sl)) (EP X pins σ Q) X.xe s
def ng (r:V -> Option Int -> Option Int -> Hp -> VK -> Prop) (te:TE) (tl th:TO):TE:=fun σ H Q=>te σ H fun x H1=>tl σ H1 fun l H2=>th σ H2 fun u H3=>r x l u H3 Q
theorem Fn {r:V -> Option Int -> Option Int -> Hp -> VK -> Prop} (hr:kx X r) (he:PE X e te) (hl:PO X lo tl) (hu:PO X hi th):PE X (.Subscript e (.Slice lo hi none p2) pos) (ng r te tl th):=by
 intro pins s σ H Q I h
 refine Subscript_ (Bv (he pins s σ H _ I h) fun v s1 dG=>?_)
 obtain ⟨x,H1,I1,r1,q1⟩ := dG
 refine wpAny_Slice (Bv (hl pins s1 σ H1 _ I1 q1) fun vl s2 ⟨l,H2,I2,pl,q2⟩=>Bv (hu pins s2 σ H2 _ I2 q2) fun vu s3 dG=>?_)
 obtain ⟨u,H3,I3,pu,q3⟩ := dG
 rw [evalPart_none]
 refine wpAny_pure ?_
 have I4:Ai X pins σ H3 { s3 with heap:=s3.heap.push { cls := .type "slice",data := .fields #[vl,vu,.none] } }:=I3.kept (t':=s3.toks) fun b ob q=>Heap.get?_push_of_some _ q
 obtain ⟨T,id,hT,ht,hg⟩ := hr pins { s3 with heap:=s3.heap.push { cls := .type "slice",data := .fields #[vl,vu,.none] } } σ H3 x v vl vu l u s3.heap.objs.size Q I4 r1 (Heap.IsSliceOf.new ..) pl pu q3
 show wpAny (model X.prog X.w) X.A (subscriptTail e (.Slice lo hi none p2) v (.ref s3.heap.objs.size)) (EP X pins σ Q) X.xe { s3 with heap:=s3.heap.push { cls := .type "slice",data := .fields #[vl,vu,.none] } }
 exact tail_any (ops:=[.ref s3.heap.objs.size,v]) ht hT hg (by with_unfolding_all rfl)
def Pp (xs:List V) (lo hi:Option Int):List V:=(xs.drop (HT.gN xs.length 0 lo)).take (HT.gN xs.length xs.length hi - HT.gN xs.length 0 lo)
theorem Pq (xs:List V) (lo hi:Option Int):(Pp xs lo hi).length <= xs.length:=by
 unfold Pp
 rw [List.length_take,List.length_drop]
 omega
def ix (K:PySem.W.Frag):R2:=fun x y H Q=>∃ a b xs ys,x = .ref a /\ y = .ref b /\ Bw K H a xs /\ Bw K H b ys /\ xs ≠ [] /\ xs.length + ys.length <= sizeLine /\
 (ys = [] -> Q (.ref a) H) /\ (ys ≠ [] -> ∀ p,H p = none -> Q (.ref p) (upd H p (.tup (xs ++ ys))))
theorem B2.kK {xs:List V} {us:List Value} (r:B2 xs us):us = [] ↔ xs = []:=by
 cases r with
 | nil=>simp
 | cons _ _=>simp
theorem Z9:G6 X (binaryOp .Add) (ix X.K):=by
 intro pins s σ H x y v u Q I rx ry h
 obtain ⟨a,b,xs,ys,rfl,rfl,ha,hb,hx,hz,q1,q2⟩ := h
 cases rx
 cases ry
 obtain ⟨aU,r1,p1,_⟩ := I.tuple ha
 obtain ⟨iR,r2,p2,_⟩ := I.tuple hb
 refine HT.sO p1 p2 (fun z=>hx (r1.kK.mp z)) (fun z=>⟨.ref a,H,I,rfl,q1 (r2.kK.mp z)⟩) (fun z=>?_) (by rw [<- r1.length,<- r2.length]; exact hz)
 refine ⟨.ref s.heap.objs.size,_,I.laid (t':=s.toks) (o := .tup (xs ++ ys)) (fun b ob q=>Heap.get?_push_of_some _ q) (Nat.le_refl _) ?_,rfl,q2 (fun w=>z (r2.kK.mpr w)) _ (I.aS.fresh (Nat.le_refl _))⟩
 exact ⟨⟨by rw [List.length_append]; exact hz,⟨_,Heap.get?_push_size _ rfl,rfl⟩⟩,_,r1.append r2,IsTup.new _ _⟩
end
def Wu (n:Nat) (i:Int):Option Nat:=if 0 <= i then (if i < n then some i.toNat else none) else if -(n:Int) <= i then some (i + n).toNat else none
def G4 {α:Type} (xs:List α) (i:Int):Option α:=(Wu xs.length i).bind fun j=>xs[j]?
theorem Tl {n:Nat} {i:Int} {j:Nat} (h:Wu n i = some j):seqIndex? i n = some j /\ j < n /\ -(n:Int) <= i /\ i < n:=by
 unfold Wu at h
 by_cases h0:0 <= i
 ·rw [if_pos h0] at h
  by_cases h1:i < n
  ·rw [if_pos h1] at h
   have e:i.toNat = j:=Option.some.inj h
   exact ⟨by rw [seqIndex_of h0 h1,e],by omega,by omega,h1⟩
  ·rw [if_neg h1] at h; cases h
 ·rw [if_neg h0] at h
  by_cases h1 : -(n:Int) <= i
  ·rw [if_pos h1] at h
   have e:(i + n).toNat = j:=Option.some.inj h
   exact ⟨by rw [seqIndex_neg (by omega) h1,e],by omega,h1,by omega⟩
  ·rw [if_neg h1] at h; cases h
theorem Ny {α:Type} {xs:List α} {i:Int} {v:α} (h:G4 xs i = some v):∃ j,seqIndex? i xs.length = some j /\ xs[j]? = some v /\ j < xs.length /\ -(xs.length:Int) <= i /\ i < xs.length:=by
 unfold G4 at h
 cases e:Wu xs.length i with
 | none=>rw [e] at h; cases h
 | some j =>
  rw [e] at h
  obtain ⟨h1,h2,h3,h4⟩ := Tl e
  exact ⟨j,h1,h,h2,h3,h4⟩
theorem Jr {α:Type} {xs:List α} {j:Nat} {v:α} (h:xs[j]? = some v):G4 xs (j:Int) = some v:=by
 have hj:j < xs.length:=(List.getElem?_eq_some_iff.mp h).1
 have e:Wu xs.length (j:Int) = some j:=by
  unfold Wu
  rw [if_pos (by omega),if_pos (by omega)]; simp
 unfold G4; rw [e]; exact h
theorem Vx {α:Type} (xs:List α) (v:α):G4 (xs ++ [v]) (-1) = some v:=by
 have hl:(xs ++ [v]).length = xs.length + 1:=by simp
 have e:Wu (xs ++ [v]).length (-1) = some xs.length:=by
  unfold Wu
  rw [hl,if_neg (by decide),if_pos (by omega)]
  congr 1
  omega
 unfold G4
 rw [e]
 show (xs ++ [v])[xs.length]? = some v
 simp
def Yi (b:Expr):Prop := ∀ o i,subscripted b false o i = operate [o,i] (getItem o i)
def gm (X:Cx) (r:R2):Prop :=
 ∀ (value slice:Expr) (pins:List (Addr × Obj)) (s:Shared) (σ:St) (H:Hp) (x y:V) (v u:Value) (Q:VK),Ai X pins σ H s -> B4 x v -> B4 y u -> r x y H Q ->
  subscripted slice false v u = operate [v,u] (getItem v u) -> wpAny (model X.prog X.w) X.A (subscriptTail value slice v u) (EP X pins σ Q) X.xe s
def kc (X:Cx) (id:String) (r:V -> List V -> Hp -> VK -> Prop):Prop :=
 ∀ (pins:List (Addr × Obj)) (s:Shared) (σ:St) (H:Hp) (x:V) (xs:List V) (v:Value) (us:List Value) (Q:VK),Ai X pins σ H s -> B4 x v -> B2 xs us -> r x xs H Q ->
  wpAny (model X.prog X.w) X.A (call (.builtin id) (v :: us)) (EP X pins σ Q) X.xe s
section
variable {X:Cx} {a b:Expr} {ta tb:TE} {pos:Pos}
theorem Au {r:R2} (hr:gm X r) (ha:PE X a ta) (hb:PE X b tb) (hs:Yi b):PE X (.Subscript a b pos) (kh r ta tb):=by
 intro pins s σ H Q I h
 exact Subscript_ (ak ha hb I h fun v u s2 x y H2 I2 rx ry q=>hr a b pins s2 σ H2 x y v u Q I2 rx ry q (hs _ _))
def lm (K:PySem.W.Frag):R2:=fun x y H Q=>∃ p xs i v,x = .ref p /\ y = .int i /\ B5 K H p xs /\ G4 xs i = some v /\ Q v H
def lq (K:PySem.W.Frag):R2:=fun x y H Q=>∃ p xs i v,x = .ref p /\ y = .int i /\ Bw K H p xs /\ G4 xs i = some v /\ Q v H
def lp:R2:=fun x y H Q=>∃ z i c,x = .str z /\ y = .int i /\ z.length <= sizeLine /\ G4 z.cps.toList i = some c /\ Q (.str ⟨#[c]⟩) H
theorem Yy:gm X (lm X.K):=by
 intro value slice pins s σ H x y v u Q I rx ry h hs
 obtain ⟨p,xs,i,z,rfl,rfl,hq,he,q⟩ := h
 cases rx
 obtain ⟨t,rfl⟩ := ry
 obtain ⟨aU,r,pl,hz⟩ := I.list hq
 obtain ⟨j,h1,h2,h3,h4,h5⟩ := Ny he
 obtain ⟨w,ew,lH⟩ := r.get h2
 have hl:=r.length
 have hn:=Gg
 have fin:EP X pins σ Q w s:=⟨z,H,I,lH,q⟩
 by_cases h0:0 <= i
 ·have hj : i.toNat = j := by
   rw [seqIndex_of h0 h5] at h1
   exact Option.some.inj h1
  exact item_listR pl.isList h0 (by omega) (by rw [hj]; simpa using ew) fin hs
 ·have hj : (i + (aU.toArray.size : Int)).toNat = j := by
   rw [seqIndex_neg (by omega) h4] at h1
   rw [List.size_toArray,<- hl]
   exact Option.some.inj h1
  exact subscriptTail_builtinR (x:=w) pl.isList.typeIs slot_list_getitem.lookup
   (wpAny_getItem_list_neg (Q:=fun r s'=>r = w /\ EP X pins σ Q r s') pl.isList (by omega) (by rw [List.size_toArray] <;> omega) (by omega) (by rw [hj]; simpa using ew) ⟨rfl,fin⟩) hs
theorem bf:gm X (lq X.K):=by
 intro value slice pins s σ H x y v u Q I rx ry h hs
 obtain ⟨p,xs,i,z,rfl,rfl,hq,he,q⟩ := h
 cases rx
 obtain ⟨t,rfl⟩ := ry
 obtain ⟨aU,r,pl,hz⟩ := I.tuple hq
 obtain ⟨j,h1,h2,h3,h4,h5⟩ := Ny he
 obtain ⟨w,ew,lH⟩ := r.get h2
 have hl:=r.length
 have hn:=Gg
 have fin:EP X pins σ Q w s:=⟨z,H,I,lH,q⟩
 exact subscriptTail_builtinR (x:=w) pl.typeIs slot_tuple_getitem.lookup
  (getItem_tuple (j:=j) (Q:=fun r s'=>r = w /\ EP X pins σ Q r s') pl (by omega) (by omega) (by rw [List.size_toArray,<- hl]; exact h1) (by simpa using ew) ⟨rfl,fin⟩) hs
theorem bd:gm X lp:=by
 intro value slice pins s σ H x y v u Q I rx ry h hs
 obtain ⟨z,i,c,rfl,rfl,hz,he,q⟩ := h
 obtain ⟨t,rfl⟩ := rx
 obtain ⟨t',rfl⟩ := ry
 obtain ⟨j,h1,h2,h3,h4,h5⟩ := Ny he
 have hl:z.cps.toList.length = z.length:=by simp [Str.length]
 rw [hl] at h1 h4 h5
 have hn:=Gg
 exact tail_any (typeIs_str s z t) slot_str_getitem.lookup (getItem_str (c:=c) (by
  have e1:decide (i < -(2 ^ 63:Int)) = false:=decide_eq_false (by omega)
  have e2:decide (i >= 2 ^ 63) = false:=decide_eq_false (by omega)
  rw [e1,e2,Bool.or_false]) (by rw [h1]; simpa using h2) ⟨.str ⟨#[c]⟩,H,I.tok _,⟨_,rfl⟩,q⟩) hs
theorem Ro (aU:List Value) (n j:Nat) (u:Value):Obj.mapSeq (·.setIfInBounds j u) { cls := .type "list",data := .seq aU.toArray n } = { cls := .type "list",data := .seq (aU.set j u).toArray n }:=by
 simp [Obj.mapSeq]
theorem Ai.lst {pins : List (Addr × Obj)} {σ : St} {H : Hp} {s : Shared} {p : Addr} {xs : List V} (I : Ai X pins σ H s) (h : H p = some (.lst xs)) :
  ∃ (aU:List Value) (n:Nat),B2 xs aU /\ s.heap.get? p = some { cls := .type "list",data := .seq aU.toArray n } /\ xs.length <= sizeLine:=by
 obtain ⟨z,aU,n,r,e⟩ := I.aS p _ h
 exact ⟨aU,n,r,e,z⟩
theorem Ai.w5 {pins : List (Addr × Obj)} {σ : St} {H : Hp} {s : Shared} {p : Addr} {xs ys : List V} {aU its' : List Value} {n n' : Nat} {f : Obj -> Obj} (I : Ai X pins σ H s) (h : H p = some (.lst xs))
  (ho:s.heap.get? p = some { cls := .type "list",data := .seq aU.toArray n }) (hf:f { cls := .type "list",data := .seq aU.toArray n } = { cls := .type "list",data := .seq its'.toArray n' }) (r:B2 ys its') (hz:ys.length <= sizeLine) (t:Nat) :
  Ai X pins σ (upd H p (.lst ys)) { s with heap:=s.heap.update p f,toks:=t }:=by
 have e:(s.heap.update p f).get? p = some { cls := .type "list",data := .seq its'.toArray n' }:=by
  rw [Heap.get?_update_self f ho (by rw [hf] <;> rfl),hf]
 refine I.write (x:=p) (e:=p) (by rw [h]; trivial) (.inl rfl) (fun b u hb q=>(Heap.get?_update_other _ _ (Ne.symm hb)).trans q) ⟨_,e⟩ ?_
 exact ⟨hz,its',n',r,e⟩
def j7:V -> V -> V -> Hp -> (Hp -> Prop) -> Prop:=fun o i v H Q=>∃ p xs k j,o = .ref p /\ i = .int k /\ H p = some (.lst xs) /\ Wu xs.length k = some j /\ Q (upd H p (.lst (xs.set j v)))
theorem Fr:gu X j7:=by
 intro pins s σ H o i v ov iv u Q I ro ri rv h
 obtain ⟨p,xs,k,j,rfl,rfl,hp,hj,q⟩ := h
 cases ro
 obtain ⟨t,rfl⟩ := ri
 obtain ⟨aU,n,r,ho,hz⟩ := I.lst hp
 obtain ⟨h1,h2,h3,h4⟩ := Tl hj
 have hl:=r.length
 have hn:=Gg
 have I':Ai X pins σ (upd H p (.lst (xs.set j v))) { s with heap:=s.heap.update p (Obj.mapSeq (·.setIfInBounds j u)) } :=
  I.w5 hp ho (Ro aU n j u) (r.set rv j) (by rw [List.length_set]; exact hz) s.toks
 by_cases h0:0 <= k
 ·have hk : k.toNat = j := by
   rw [seqIndex_of h0 h4] at h1
   exact Option.some.inj h1
  exact PySem.W.ki_setAt ho h0 (by omega) (by rw [List.size_toArray,<- hl]; exact h4) (by rw [hk]; exact ⟨_,I',q⟩)
 ·have hk : (k + (aU.toArray.size : Int)).toNat = j := by
   rw [seqIndex_neg (by omega) h3] at h1
   rw [List.size_toArray,<- hl]
   exact Option.some.inj h1
  exact PySem.W.ki_setBack ho (by omega) (by rw [List.size_toArray,<- hl]; exact h3) (by omega) (by rw [hk]; exact ⟨_,I',q⟩)
theorem Oy (lo hi:Option Int) (n:Nat):(sliceBounds lo hi none n).1 = ((HT.gN n 0 lo:Nat):Int) /\ (sliceBounds lo hi none n).2.1 = ((HT.gN n n hi:Nat):Int) /\ (sliceBounds lo hi none n).2.2 = 1:=by
 refine ⟨?_,?_,rfl⟩
 ·cases lo with
  | none=>simp [sliceBounds,HT.gN]
  | some i =>
   simp only [sliceBounds,HT.gN,Option.getD_none,show (1:Int) > 0 by decide,if_true]
   by_cases h:i < 0
   ·simp only [h,if_true] <;> omega
   ·simp only [h,if_false] <;> omega
 ·cases hi with
  | none=>simp [sliceBounds,HT.gN]
  | some i =>
   simp only [sliceBounds,HT.gN,Option.getD_none,show (1:Int) > 0 by decide,if_true]
   by_cases h:i < 0
   ·simp only [h,if_true] <;> omega
   ·simp only [h,if_false] <;> omega
theorem M0 (aU:List Value) (lo hi:Option Int):slicePick aU.toArray lo hi none = ((aU.drop (HT.gN aU.length 0 lo)).take (HT.gN aU.length aU.length hi - HT.gN aU.length 0 lo)).toArray:=by
 obtain ⟨h1,h2,h3⟩ := Oy lo hi aU.toArray.size
 unfold slicePick
 rw [h1,h2,h3]
 simp only [sliceRange_one,pick_run,List.size_toArray] <;> rfl
def j8 (K:PySem.W.Frag):V -> Option Int -> Option Int -> Hp -> VK -> Prop:=fun x lo hi H Q=>∃ a xs,x = .ref a /\ B5 K H a xs /\ ∀ p,H p = none -> Q (.ref p) (upd H p (.lst (Pp xs lo hi)))
theorem Zl:kx X (j8 X.K):=by
 intro pins s σ H x v vl vu lo hi sl Q I rx hs pl pu h
 obtain ⟨a,xs,rfl,hx,q⟩ := h
 cases rx
 obtain ⟨aU,r,ht,hz⟩ := I.list hx
 have hlen:=r.length
 refine ⟨"list",_,slot_list_getitem.lookup,ht.isList.typeIs,?_⟩
 refine wpAny_getItem_list_slice ht.isList hs pl pu .none (by simp) ?_ (by rw [List.size_toArray] <;> omega)
 rw [M0,<- hlen]
 refine ⟨.ref s.heap.objs.size,_,I.laid (t':=s.toks) (o := .lst (Pp xs lo hi)) (fun b ob q=>Heap.get?_push_of_some _ q) (Nat.le_refl _) ?_,rfl,q _ (I.aS.fresh (Nat.le_refl _))⟩
 exact ⟨Nat.le_trans (Pq xs lo hi) hz,_,0,(r.drop (HT.gN xs.length 0 lo)).take (HT.gN xs.length xs.length hi - HT.gN xs.length 0 lo),Heap.get?_push_size _ rfl⟩
def Fk:V -> Bool
 | .cZ=>true
 | .bl _=>true
 | .int _=>true
 | .str _=>true
 | _=>false
def Yr:V -> V -> Bool
 | .cZ,.cZ=>true
 | .bl a,.bl b=>a == b
 | .bl a,.int b=>(if a then 1 else 0) == b
 | .int a,.bl b=>a == (if b then 1 else 0)
 | .int a,.int b=>a == b
 | .str a,.str b=>a == b
 | _,_=>false
theorem au {A:Around} {s:Shared} {y x:V} {u v:Value} (ry:B4 y u) (rx:B4 x v) (fy:Fk y = true) (fx:Fk x = true):SeqAt.EqAt A s u v (Yr y x):=by
 cases y with
 | cZ =>
  cases ry
  cases x with
  | cZ=>cases rx; exact SeqAt.EqAt.same _
  | bl b=>cases rx; exact SeqAt.EqAt.none_bool b
  | int b=>obtain ⟨t,rfl⟩ := rx; exact SeqAt.EqAt.none_int b t
  | str b=>obtain ⟨t,rfl⟩ := rx; exact SeqAt.EqAt.none_str b t
  | _=>exact absurd (show false = true from fx) Bool.false_ne_true
 | bl a =>
  cases ry
  cases x with
  | cZ=>cases rx; exact SeqAt.EqAt.bool_none a
  | bl b=>cases rx; exact SeqAt.EqAt.bool_bool a b
  | int b=>obtain ⟨t,rfl⟩ := rx; exact SeqAt.EqAt.bool_int a b t
  | str b=>obtain ⟨t,rfl⟩ := rx; exact SeqAt.EqAt.bool_str a b t
  | _=>exact absurd (show false = true from fx) Bool.false_ne_true
 | int a =>
  obtain ⟨t',rfl⟩ := ry
  cases x with
  | cZ=>cases rx; exact SeqAt.EqAt.int_none a t'
  | bl b=>cases rx; exact SeqAt.EqAt.int_bool a t' b
  | int b=>obtain ⟨t,rfl⟩ := rx; exact SeqAt.EqAt.int_int a t' b t
  | str b=>obtain ⟨t,rfl⟩ := rx; exact SeqAt.EqAt.int_str a t' b t
  | _=>exact absurd (show false = true from fx) Bool.false_ne_true
 | str a =>
  obtain ⟨t',rfl⟩ := ry
  cases x with
  | cZ=>cases rx; exact SeqAt.EqAt.str_none a t'
  | bl b=>cases rx; exact SeqAt.EqAt.str_bool a t' b
  | int b=>obtain ⟨t,rfl⟩ := rx; exact SeqAt.EqAt.str_int a t' b t
  | str b=>obtain ⟨t,rfl⟩ := rx; exact SeqAt.EqAt.str_str a t' b t
  | _=>exact absurd (show false = true from fx) Bool.false_ne_true
 | _=>exact absurd (show false = true from fy) Bool.false_ne_true
def Rg (x:V) (u:Value):Bool:=match u with
 | .none=>Yr .cZ x
 | .bool b=>Yr (.bl b) x
 | .int i _=>Yr (.int i) x
 | .str z _=>Yr (.str z) x
 | _=>false
theorem Wh {x y:V} {u:Value} (r:B4 y u) (f:Fk y = true):Rg x u = Yr y x:=by
 cases y with
 | cZ=>cases r; rfl
 | bl b=>cases r; rfl
 | int i=>obtain ⟨t,rfl⟩ := r; rfl
 | str z=>obtain ⟨t,rfl⟩ := r; rfl
 | _=>exact absurd (show false = true from f) Bool.false_ne_true
theorem Jq {x:V} {xs:List V} {us:List Value} (h:B2 xs us) (f:xs.all Fk = true):us.any (Rg x) = xs.any fun y=>Yr y x:=by
 induction h with
 | nil=>rfl
 | cons r t ih =>
  rw [List.all_cons,Bool.and_eq_true] at f
  rw [List.any_cons,List.any_cons,Wh r f.1,ih f.2]
theorem Gx {A:Around} {s:Shared} {x:V} {v:Value} (rx:B4 x v) (fx:Fk x = true) {xs:List V} {us:List Value} (h:B2 xs us) (f:xs.all Fk = true):∀ u ∈ us,SeqAt.EqAt A s u v (Rg x u):=by
 induction h with
 | nil =>
  intro u hu
  cases hu
 | cons r t ih =>
  intro u' hu
  rw [List.all_cons,Bool.and_eq_true] at f
  rcases List.mem_cons.mp hu with rfl | hu
  ·rw [Wh r f.1]
   exact au r rx f.1 fx
  ·exact ih f.2 u' hu
def Pe (x:V) (xs:List V):Bool:=xs.any fun y=>Yr y x
def kg (K:PySem.W.Frag) (neg:Bool):R2:=fun x y H Q=>∃ p xs,y = .ref p /\ (B5 K H p xs \/ Bw K H p xs) /\ Fk x = true /\ xs.all Fk = true /\ Q (.bl (if neg then !Pe x xs else Pe x xs)) H
theorem V3:G6 X (compareOp .In) (kg X.K false):=by
 intro pins s σ H x y v u Q I rx ry h
 obtain ⟨p,xs,rfl,hq,fx,fs,q⟩ := h
 cases ry
 rcases hq with hq | hq
 ·obtain ⟨aU,r,pl,hz⟩ := I.list hq
  refine SeqAt.in_listAt (Rg x) pl.isList (fun w hw=>Gx rx fx r fs w (by simpa using hw)) ⟨.bl _,H,I,rfl,?_⟩
  rw [show aU.toArray.any (Rg x) = aU.any (Rg x) by simp,Jq r fs]
  exact q
 ·obtain ⟨aU,r,pl,hz⟩ := I.tuple hq
  refine SeqAt.in_tupleAt (Rg x) pl (fun w hw=>Gx rx fx r fs w (by simpa using hw)) ⟨.bl _,H,I,rfl,?_⟩
  rw [show aU.toArray.any (Rg x) = aU.any (Rg x) by simp,Jq r fs]
  exact q
theorem Oh:G6 X (compareOp .NotIn) (kg X.K true):=by
 intro pins s σ H x y v u Q I rx ry h
 obtain ⟨p,xs,rfl,hq,fx,fs,q⟩ := h
 cases ry
 rcases hq with hq | hq
 ·obtain ⟨aU,r,pl,hz⟩ := I.list hq
  refine SeqAt.notIn_listAt (Rg x) pl.isList (fun w hw=>Gx rx fx r fs w (by simpa using hw)) ⟨.bl _,H,I,rfl,?_⟩
  rw [show aU.toArray.any (Rg x) = aU.any (Rg x) by simp,Jq r fs]
  exact q
 ·obtain ⟨aU,r,pl,hz⟩ := I.tuple hq
  refine SeqAt.notIn_tupleAt (Rg x) pl (fun w hw=>Gx rx fx r fs w (by simpa using hw)) ⟨.bl _,H,I,rfl,?_⟩
  rw [show aU.toArray.any (Rg x) = aU.any (Rg x) by simp,Jq r fs]
  exact q
theorem O0:D2 X (.builtin "len") (fun xs H Q=>∃ p ys,xs = [.ref p] /\ (B5 X.K H p ys \/ Bw X.K H p ys) /\ Q (.int ys.length) H):=by
 intro pins s σ H xs us Q I r h
 obtain ⟨p,ys,rfl,hq,q⟩ := h
 obtain ⟨u,rfl,rx⟩ := Ff r
 cases rx
 have hn:=Gg
 rcases hq with hq | hq
 ·obtain ⟨aU,r',pl,hz⟩ := I.list hq
  have hlen:=r'.length
  exact Calls.call_len_list pl.isList (by simp only [List.size_toArray] <;> omega) ⟨.int ys.length,H,I.tok _,⟨s.toks + 1,by rw [List.size_toArray,hlen]⟩,q⟩
 ·obtain ⟨aU,r',pl,hz⟩ := I.tuple hq
  have hlen:=r'.length
  exact len_tuple pl (by simp only [List.size_toArray] <;> omega) ⟨.int ys.length,H,I.tok _,⟨s.toks + 1,by rw [List.size_toArray,hlen]⟩,q⟩
theorem G7:D2 X (.type "tuple") (fun xs H Q=>∃ p ys,xs = [.ref p] /\ ((B5 X.K H p ys /\ ∀ l,H l = none -> Q (.ref l) (upd H l (.tup ys))) \/ (Bw X.K H p ys /\ Q (.ref p) H))):=by
 intro pins s σ H xs us Q I r h
 obtain ⟨p,ys,rfl,h⟩ := h
 obtain ⟨u,rfl,rx⟩ := Ff r
 cases rx
 rcases h with ⟨hq,q⟩ | ⟨hq,q⟩
 ·obtain ⟨aU,r',pl,hz⟩ := I.list hq
  have hlen:=r'.length
  refine call_tuple_list pl.isList (fun h' kp=>?_) (by simp only [List.size_toArray] <;> omega)
  have I1:Ai X pins σ H { s with heap:=h' }:=I.kept (t':=s.toks) kp
  have I2:Ai X pins σ (upd H h'.objs.size (.tup ys)) { s with heap:=h'.push { cls := .type "tuple",data := .seq aU.toArray } } :=
   I1.laid (t':=s.toks) (fun b o e=>Heap.get?_push_of_some _ e) (Nat.le_refl _) (show Bl X.prog X.w _ _ _ (.tup ys) from ⟨⟨hz,⟨_,Heap.get?_push_size _ rfl,rfl⟩⟩,aU,r',IsTup.new _ _⟩)
  exact ⟨.ref h'.objs.size,_,I2,rfl,q _ (I1.aS.fresh (Nat.le_refl _))⟩
 ·obtain ⟨aU,r',pl,hz⟩ := I.tuple hq
  exact call_tuple_same pl ⟨.ref p,H,I,rfl,q⟩
def mr (K:PySem.W.Frag) (T:String) (x:V) (H:Hp):Prop:=match x with
 | .str _=>T = "str"
 | .int _=>T = "int"
 | .ref p => (T = "list" /\ ∃ xs, B5 K H p xs) \/ (T = "tuple" /\ ((∃ o, K.lookup p = some o /\ o.cls = .type "tuple" /\ o.dict = none) \/ ∃ xs, H p = some (.tup xs))) \/
   (T = "dict" /\ ((∃ kvs,H p = some (.dK kvs)) \/ ∃ kvs,H p = some (.dT kvs))) \/ (T = "set" /\ ∃ S n,H p = some (.set S n))
 | _=>False
theorem gd {pins : List (Addr × Obj)} {σ : St} {H : Hp} {s : Shared} {T : String} {x : V} {v : Value} (I : Ai X pins σ H s) (r : B4 x v) (ty : mr X.K T x H) :
  s.TypeIs v T /\ ∀ a,v = .ref a -> ∃ ob,s.heap.get? a = some ob /\ ob.dict = none:=by
 cases x with
 | str z =>
  obtain ⟨t,rfl⟩ := r
  cases (show T = "str" from ty)
  exact ⟨typeIs_str s z t,fun _ e=>nomatch e⟩
 | int i =>
  obtain ⟨t,rfl⟩ := r
  cases (show T = "int" from ty)
  exact ⟨typeIs_int s i t,fun _ e=>nomatch e⟩
 | ref p =>
  cases r
  rcases ty with ⟨rfl,xs,hq⟩ | ⟨rfl,⟨o,hk,hc,hd⟩ | ⟨ys,hk⟩⟩ | ⟨rfl,hk⟩ | ⟨rfl,S,n,hk⟩
  ·obtain ⟨aU,_,pl,_⟩ := I.list hq
   refine ⟨pl.isList.typeIs,fun a e=>?_⟩
   cases e
   obtain ⟨o,n,e,c,hd,_⟩ := pl
   exact ⟨o,e,hd⟩
  ·refine ⟨⟨o,I.fQ p o hk,hc⟩,fun a e=>?_⟩
   cases e
   exact ⟨o,I.fQ _ o hk,hd⟩
  ·obtain ⟨⟨_,o2,e2,d2⟩,_,_,⟨o1,e1,c1,_⟩⟩ := (show Bl X.prog X.w H s.heap p (.tup ys) from I.aS p _ hk)
   refine ⟨⟨o1,e1,c1⟩,fun a ea=>?_⟩
   cases ea
   exact ⟨o2,e2,d2⟩
  ·have z : ∃ o, s.heap.get? p = some o /\ o.ExactDict := by
    rcases hk with ⟨kvs,hk⟩ | ⟨kvs,hk⟩
    ·obtain ⟨_,_,_,_,o,_,_,e,ex,_⟩ := I.aS p _ hk
     exact ⟨o,e,ex⟩
    ·obtain ⟨_,_,_,_,o,_,_,e,ex,_⟩ := I.aS p _ hk
     exact ⟨o,e,ex⟩
   obtain ⟨o,e,ex⟩ := z
   refine ⟨⟨o,e,ex.1⟩,fun a e2=>?_⟩
   cases e2
   exact ⟨o,e,ex.2.1⟩
  ·obtain ⟨o,_,_,_,e,ex,_⟩ := I.aS p _ hk
   refine ⟨⟨o,e,ex.1⟩,fun a e2=>?_⟩
   cases e2
   exact ⟨o,e,ex.2.1⟩
 | _=>exact False.elim ty
def n9 (K:PySem.W.Frag) (T:String) (r:V -> List V -> Hp -> VK -> Prop) (to:TE) (t:TA):TE:=fun σ H Q=>to σ H fun x H1=>mr K T x H1 /\ t σ H1 fun xs H2=>r x xs H2 Q
variable {o e:Expr} {es:List Expr} {to:TE} {t:TA} {name:Str} {apos dH:Pos} {T id:String} {r:V -> List V -> Hp -> VK -> Prop}
theorem E3 (pa : PlainAttrs T) (slot : Slot T name id) (hty : typeOf (.builtin id) = pure (.type "method_descriptor")) (hm : kc X id r) (ho : PE X o to) (ha : PA X (e :: es) t)
  (oZ:attributeBase o name X.env (eval o X.env) = eval o X.env:=by rfl)
  (mK:((backTo dH (starEach (e :: es) X.env)).all (fun x=>!x.1) && (backToKw dH (keywordEach [] X.env)).all (fun x=>x.1.isSome)
   && decide ((e :: es).length + ([]:List Keyword).length + (if ([]:List Keyword).isEmpty then 0 else 1) < 30)) = true:=by rfl)
  (p0:(apos.endLine == dH.line) = true:=by rfl) (hs:starEach (e :: es) X.env = (false,eval e X.env) :: starEach es X.env:=by rfl) (w6:(backTo dH (starEach es X.env)).any (·.1) = false:=by rfl) :
  PE X (.Call (.Attribute o name apos) (e :: es) [] dH) (n9 X.K T r to t):=by
 intro pins s σ H Q I h
 refine wpAny_Call_method_late oZ mK p0 rfl (Bv (ho pins s σ H _ I h) fun v s1 dG=>?_)
 obtain ⟨x,H1,I1,r1,ty,q1⟩ := dG
 obtain ⟨h1,h2⟩ := gd I1 r1 ty
 refine ⟨T,id,pa,slot,hty,h1,h2,?_⟩
 have hA:=ha dH pins s1 σ H1 _ I1 q1
 rw [hs] at hA ⊢
 refine Calls.callWith_builtin (by show (false || (backTo dH (starEach es X.env)).any (·.1)) = false; rw [w6] <;> rfl) (Calls.evalArgs_plain ?_)
 exact Bv hA fun us s2 ⟨vs,H2,I2,r2,q2⟩=>hm pins s2 σ H2 x vs v us Q I2 r1 r2 q2
/- xs.append(e),list.index on a IE tuple .. are kc facts of 06m -/
end
def kq (X:Cx) (id:String) (r:V -> List V -> Hp -> VK -> Prop):Prop :=
 ∀ (pins:List (Addr × Obj)) (s:Shared) (σ:St) (H:Hp) (x:V) (xs:List V) (v:Value) (us:List Value) (Q:VK),Ai X pins σ H s -> B4 x v -> B2 xs us -> r x xs H Q ->
  wpAny (model X.prog X.w) X.A (call (.builtin id) (v :: us)) (EP X pins σ Q) X.xe s
theorem B2.one {x:V} {us:List Value} (h:B2 [x] us):∃ u,us = [u] /\ B4 x u:=by
 cases h with
 | cons r t =>
  cases t
  exact ⟨_,rfl,r⟩
theorem B2.two {x y:V} {us:List Value} (h:B2 [x,y] us):∃ u v,us = [u,v] /\ B4 x u /\ B4 y v:=by
 cases h with
 | cons r t =>
  obtain ⟨v,rfl,q⟩ := B2.one t
  exact ⟨_,v,rfl,r,q⟩
section
variable {X:Cx} {pins:List (Addr × Obj)} {σ:St} {H:Hp} {s:Shared} {l b:Addr} {xs ys zs:List V}
theorem Ai.IG {aU its' : List Value} {n : Nat} {f : Array Value -> Array Value} {t' : Nat} (I : Ai X pins σ H s) (hH : H l = some (.lst xs))
  (e:s.heap.get? l = some { cls := .type "list",data := .seq aU.toArray n }) (hf:f aU.toArray = its'.toArray) (hv:B2 ys its') (hz:ys.length <= sizeLine) :
  Ai X pins σ (upd H l (.lst ys)) { s with heap:=s.heap.update l (Obj.mapSeq f),toks:=t' }:=by
 have q:=PySem.IsL.update e f
 rw [hf] at q
 refine I.write (x:=l) (e:=l) (by rw [hH]; exact trivial) (.inl rfl) (fun b' u hb hu=>(Heap.get?_update_other s.heap (Obj.mapSeq f) (Ne.symm hb)).trans hu) ⟨_,q⟩ ?_
 exact ⟨hz,its',_,hv,q⟩
theorem Ai.IH {aU : List Value} {t' : Nat} (I : Ai X pins σ H s) (hv : B2 ys aU) (hz : ys.length <= sizeLine) :
  Ai X pins σ (upd H s.heap.objs.size (.lst ys)) { s with heap:=s.heap.push { cls := .type "list",data := .seq aU.toArray },toks:=t' } :=
 I.laid (fun _ _ q=>Heap.get?_push_of_some _ q) (Nat.le_refl _) ⟨hz,aU,0,hv,Heap.get?_push_size _ rfl⟩
theorem Ai.fresh (I:Ai X pins σ H s):H s.heap.objs.size = none:=I.aS.fresh (Nat.le_refl _)
theorem Ai.p5 (I:Ai X pins σ H s) (hH:H l = some (.lst xs)):xs.length <= sizeLine /\ ∃ (aU:List Value) (n:Nat),B2 xs aU /\ xs.length = aU.length /\ s.heap.get? l = some { cls := .type "list",data := .seq aU.toArray n }:=by
 obtain ⟨z,aU,n,r,e⟩ := I.aS l _ hH
 exact ⟨z,aU,n,r,r.length,e⟩
theorem X6 {n:Nat} (h:n <= sizeLine):Builtin.List.listTooLong n = false:=by
 unfold Builtin.List.listTooLong
 exact decide_eq_false (by omega)
end
section
variable {X:Cx}
def Zg:V -> List V -> Hp -> VK -> Prop:=fun x vs H Q=>∃ l xs y,x = .ref l /\ vs = [y] /\ H l = some (.lst xs) /\ xs.length < sizeLine /\ Q .cZ (upd H l (.lst (xs ++ [y])))
theorem Cq:kq X "list.append" Zg:=by
 intro pins s σ H x vs v us Q I rx rv h
 obtain ⟨l,xs,y,rfl,rfl,hH,hz,q⟩ := h
 cases rx
 obtain ⟨u,rfl,ru⟩ := rv.one
 obtain ⟨z,aU,n,r,hl,e⟩ := I.p5 hH
 refine call_meets F.slot_list_append ⟨_,e,rfl⟩ F.entry_list_append (F.args_list_append_2 _ _) (PySem.list_append l aU.toArray n u (by rw [List.size_toArray]; omega)) ⟨e,?_⟩
 refine ⟨.cZ,_,I.IG (its':=aU ++ [u]) hH e (by simp) (r.append (.cons ru .nil)) ?_,rfl,q⟩
 rw [List.length_append,List.length_singleton]
 omega
def Zh:V -> List V -> Hp -> VK -> Prop:=fun x vs H Q=>∃ l b xs zs,x = .ref l /\ vs = [.ref b] /\ H l = some (.lst xs) /\ H b = some (.lst zs) /\ xs.length + zs.length <= sizeLine /\ Q .cZ (upd H l (.lst (xs ++ zs)))
theorem Mq:kq X "list.extend" Zh:=by
 intro pins s σ H x vs v us Q I rx rv h
 obtain ⟨l,b,xs,zs,rfl,rfl,hH,hB,hz,q⟩ := h
 cases rx
 obtain ⟨u,rfl,ru⟩ := rv.one
 cases ru
 obtain ⟨z,aU,n,r,hl,e⟩ := I.p5 hH
 obtain ⟨z2,iR,n2,r2,tZ,e2⟩ := I.p5 hB
 have hsz:aU.toArray.size + iR.toArray.size <= sizeLine:=by rw [List.size_toArray,List.size_toArray]; omega
 have II:¬ (!aU.toArray.isEmpty && Builtin.List.listTooLong (aU.toArray.size + iR.toArray.size)) = true:=by
  rw [X6 hsz,Bool.and_false]
  exact Bool.false_ne_true
 refine call_meets F.slot_list_extend ⟨_,e,rfl⟩ F.entry_list_extend (F.args_list_extend_2 _ _)
  (AutoSeq1.list_extend_list_list_0 l aU.toArray n b iR.toArray n2 II (by rw [List.size_toArray]; omega) (by omega)) ⟨e,e2,?_⟩
 refine ⟨.cZ,_,I.IG (its':=aU ++ iR) hH e (by simp) (r.append r2) ?_,rfl,q⟩
 rw [List.length_append]
 omega
def lj:R2:=fun x y H Q=>∃ l b xs zs,x = .ref l /\ y = .ref b /\ H l = some (.lst xs) /\ H b = some (.lst zs) /\ xs.length + zs.length <= sizeLine /\ ∀ p,H p = none -> Q (.ref p) (upd H p (.lst (xs ++ zs)))
theorem Ru:G6 X (binaryOp .Add) lj:=by
 intro pins s σ H x y v u Q I rx ry h
 obtain ⟨l,b,xs,zs,rfl,rfl,hH,hB,hz,q⟩ := h
 cases rx
 cases ry
 obtain ⟨z,aU,n,r,hl,e⟩ := I.p5 hH
 obtain ⟨z2,iR,n2,r2,tZ,e2⟩ := I.p5 hB
 refine PySem.P.add_list e e2 ?_ (by rw [List.size_toArray,List.size_toArray]; omega)
 have ea:aU.toArray ++ iR.toArray = (aU ++ iR).toArray:=by simp
 rw [ea]
 exact ⟨.ref _,_,I.IH (t':=s.toks) (r.append r2) (by rw [List.length_append]; omega),rfl,q _ I.fresh⟩
end
section
variable {prog:Program} {w:World} {A:Around} {E:Value -> Shared -> Prop} {s:Shared}
end
section
variable {X:Cx}
end
end L2
namespace Att
local macro_rules | `(tactic| omega) => `(tactic| lia)
open PySem PySem.W PySem.Calls PyProof.Rows
theorem Jl {P:Params} {h:Heap}:∀ (ns:List Int) (vs:List Value),WellAll P h vs (ns.map WData.int) -> IntsAre vs ns:=by
 intro ns
 induction ns with
 | nil =>
  intro vs w
  rw [List.map_nil] at w
  cases w
  exact .nil
 | cons n ns ih =>
  intro vs w
  rw [List.map_cons] at w
  cases w with
  | cons a b =>
   cases a
   exact .cons _ _ (ih _ b)
theorem ou {l : OpenLaw} {n : Nat} (hn : l.most = some n) {P : Params} {h : Heap} {args : List WData} {vals : List Value}
  (sR:l.row.toRowW.claim.pre args = true) (oS:WellAll P h vals args) :
  ∃ a vs ns,vals = [Value.ref a] /\ args = [WData.list (ns.map WData.int)] /\ h.get? a = some { cls := .type "list",data := .seq vs.toArray } /\ IntsAre vs ns /\ ns.length <= n:=by
 have hsh:WShape.hasAll [] args [.list .int] = true:=(pre_splitW sR).1
 have hc:l.pre.holds [] { args:=args } = true:=(pre_splitW sR).2
 obtain ⟨d,r,rfl,h1,h2⟩ := hasAllW_cons hsh
 obtain rfl:=hasAllW_nil h2
 obtain ⟨xs,rfl,h3⟩ := hasW_list h1
 obtain ⟨ns,rfl⟩ := items_int h3
 have hlen:ns.length <= n:=by
  unfold OpenLaw.pre at hc
  have h4:(WTm.not (.lt (.lit (.int (n:Int))) (.len (.arg 0)))).holds [] { args:=[.list (ns.map .int)] } = true:=by
   have h4:=(holds_andW hc).1
   rw [hn] at h4
   exact h4
  have h5:=condW_of h4 (w_not (w_lt w_lit (w_len_list (w_arg rfl))))
  rw [List.length_map] at h5
  refine Nat.le_of_not_lt fun q=>?_
  have q':(n:Int) < ((ns.length:Nat):Int):=by omega
  first
   | (rw [decide_eq_true q'] at h5; exact absurd h5 (by decide))
   | (simp at h5; omega)
 cases oS with
 | cons w1 w2 =>
  cases w2
  cases w1 with
  | list ho hall=>exact ⟨_,_,ns,rfl,rfl,ho,Jl ns _ hall,hlen⟩
theorem ow (l:OpenLaw) (args:List WData):l.row.toRowW.claim.post args (.bool true) args = true :=
 postW_of (r:=l.row.toRowW) (X:=(true == true))
  (show WShape.has [] (.bool true) .bool = true by first | rfl | decide | simp [WShape.has,WShape.arms,WShape.armsAll])
  (show (WTm.eq .res (.lit (.bool true))).value [] { args:=args,res:=some (.bool true),after:=args } = some (.bool (true == true)) from w_eq_bool (w_res rfl) w_lit) rfl
section
variable {prog:Program} {w:World} {A:Around} {E:Value -> Shared -> Prop} {s:Shared} {K:Frag}
end
end Att
namespace L2
local macro_rules | `(tactic| omega) => `(tactic| lia)
open PySem PySem.Spec PyProof.Rows
theorem Nt:∀ {vs:List Value} {ns:List Int},IntsAre vs ns -> B2 (ns.map V.int) vs
 | _,_,.nil=>.nil
 | _,_,.cons n t h=>.cons ⟨t,rfl⟩ (Nt h)
def ah (H:Hp):Prop := ∀ b,H b = none \/ ∃ o xs,H b = some (.eM o (.lst xs))
theorem Ww {P : Program} {w : World} {K : PySem.W.Frag} {mg mb : Str -> Option Value} {CX : Vs} {k : Nat} {fa a : Addr} {fd : FuncData} {x : Str} {sp : Sp} {s₁ : Shared} {vs : List Value} {ns : List Int}
  (KX:K.In s₁.heap) (sr:s₁.heap.Ns mainGlobals mg) (hb:s₁.heap.Ns builtinsNs mb) (hbb:∀ x:Str,x ≠ "__name__" -> mb x = bootBuiltins x) (SX:s₁.heap.NoLimit) (hg:s₁.gens = #[])
  (ha:s₁.heap.get? a = some { cls := .type "list",data := .seq vs.toArray }) (hi:IntsAre vs ns) (hl:ns.length <= sizeLine) (hr:Cb k callerA)
  (F:∀ base:Heap,K.In base -> base.Ns mainGlobals mg -> A9 P w K mg base CX k fa fd [x] sp) (IJ:∀ (s:Shared) (u:Value),BindsTo s fd ⟨[u],[]⟩ [(x,u)])
  (nL:∀ H:Hp,ah H -> B5 K H a (ns.map V.int) -> sp [.ref a] H (fun v _=>v = .bl true) fun _ _ _=>False)
  (SY:∀ H e s',CX [] H s₁ (fun _ _ _=>False) e s' -> False) :
  codeAny (model P w) callerA (.call (.ref fa) ⟨[.ref a],[]⟩) (fun r s'=>r = .ok (.ret (.bool true)) /\ OldK s₁.heap s'.heap /\ s'.os = s₁.os /\ AllBare s'.gens) s₁:=by
 have rv:=Nt hi
 have TC:=hi.length
 have core : ∀ H : Hp, ah H -> B5 K H a (ns.map V.int) -> Fh P w H s₁.heap -> (∀ b, H b ≠ none -> b = a) -> (H a ≠ none -> K.lookup a = none) ->
   codeAny (model P w) callerA (.call (.ref fa) ⟨[.ref a],[]⟩) (fun r s'=>r = .ok (.ret (.bool true)) /\ OldK s₁.heap s'.heap /\ s'.os = s₁.os /\ AllBare s'.gens) s₁:=by
  intro H hO hS aS hA hK
  have nM:∀ {b:Addr} {o:Obj},s₁.heap.get? b = some o -> H b = none -> (O7 s₁.heap H).get? b = some o:=fun e n=>Wr e n
  have IB:∀ {b:Addr} {o:Obj} {es:Array DictEntry} {ep:Nat},s₁.heap.get? b = some o -> o.data = .dict es ep -> H b = none:=fun {b o es ep} e d=>by
   cases q:H b with
   | none=>rfl
   | some u =>
    have e':b = a:=hA b (by rw [q]; simp)
    subst e'
    rw [ha] at e; cases e
    have d':Data.seq vs.toArray _ = Data.dict es ep:=d
    cases d'
  have QS:∀ {b:Addr} {m:Str -> Option Value},s₁.heap.Ns b m -> (O7 s₁.heap H).Ns b m:=fun {b m} ⟨o,es,ep,e,d,r⟩=>⟨o,es,ep,nM e (IB e d),d,r⟩
  have hKb:K.In (O7 s₁.heap H):=fun b o e=>nM (KX b o e) (by
   cases q:H b with
   | none=>rfl
   | some u =>
    have e':b = a:=hA b (by rw [q]; simp)
    subst e'
    rw [hK (by rw [q]; simp)] at e; cases e)
  have hM:Mod K mg (O7 s₁.heap H):=⟨hKb,QS sr,⟨mb,QS hb,hbb⟩,let ⟨mc,h1,h2⟩ := SX; ⟨mc,QS h1,h2⟩⟩
  have e0:R4 P w K mg (O7 s₁.heap H) callerA [] s₁ H:=⟨rfl,hM,fun b o e=>Z7 e,Nat.le_of_eq (Uo _ _),trivial,fun b hb=>absurd (show b ∈ ([]:List Addr) from hb) (by simp),aS,.of_eq hg⟩
  refine codeAny_mono ((F _ hKb (QS sr)).run callerA [] s₁ H ⟨[.ref a],[]⟩ [.ref a] [.ref a] _ _ hr e0 (IJ s₁ (.ref a)) (.cons rfl .nil) (nL H hO hS)) fun r s' h=>?_
  cases r with
  | error e=>exact (SY H e s' h).elim
  | ok fl =>
   cases fl with
   | next=>exact False.elim h
   | brk=>exact False.elim h
   | cont=>exact False.elim h
   | ret u =>
    obtain ⟨v,H',os,bare,un,ox,r',q⟩ := h
    have q':v = .bl true:=q
    subst q'
    obtain rfl:u = Value.bool true:=r'
    refine ⟨rfl,OldK.of_keep fun b o e=>?_,os,bare⟩
    cases q:H b with
    | none=>exact un.keep b o e q (by intro z; exact absurd (show b ∈ ([]:List Addr) from z) (by simp)) (by simp)
    | some u =>
     rcases hO b with z | ⟨ob,xs,z⟩
     ·rw [q] at z; cases z
     ·have z2:=un.fL b ob _ z
      obtain ⟨e1,_⟩ := aS b _ z
      obtain ⟨e2,_⟩ := ox b _ z2
      rw [e] at e1; cases e1
      exact e2
 cases hk:K.lookup a with
 | some o =>
  have e:=KX a o hk
  rw [ha] at e
  cases e
  refine core (fun _=>none) (fun _=>.inl rfl) (.inr ⟨_,vs.toArray,_,hk,rfl,rfl,rfl,by rw [List.size_toArray,TC]; exact hl,by simpa using rv⟩) (fun b u z=>by have z':(none:Option HO) = some u:=z; cases z') (fun b z=>absurd rfl z) fun z=>absurd rfl z
 | none =>
  refine core (fun b=>if b = a then some (.eM { cls := .type "list",data := .seq vs.toArray } (.lst (ns.map V.int))) else none) (fun b=>?_) (.inl (.inr ⟨{ cls := .type "list",data := .seq vs.toArray },if_pos rfl⟩)) (fun b u z=>?_) (fun b z=>?_) fun _=>hk
  ·by_cases hb:b = a
   ·exact .inr ⟨_,_,if_pos hb⟩
   ·exact .inl (if_neg hb)
  ·by_cases hb:b = a
   ·have z':=(if_pos hb).symm.trans z
    cases z'
    subst hb
    exact ⟨ha,by rw [List.length_map]; exact hl,vs,_,rv,ha⟩
   ·have z':=(if_neg hb).symm.trans z
    cases z'
  ·by_cases hb:b = a
   ·exact hb
   ·exact absurd (if_neg hb) z
def Ed (s:Stmt) (j:Nat):Stmt:=match s with
 | .ClassDef _ _ _ body _ _ _ _ _ _ _=>body.getD j (.Pass ⟨0,0,0,0⟩)
 | _=>.Pass ⟨0,0,0,0⟩
def Ag (s:Stmt):Arguments:=match s with
 | .FunctionDef _ a _ _ _ _ _ _ _ _=>a
 | _=>{ posonlyargs:=[],args:=[],vararg:=none,kwonlyargs:=[],kw_defaults:=[],kwarg:=none,defaults:=[] }
def Ac (s:Stmt):List Stmt:=match s with
 | .FunctionDef _ _ b _ _ _ _ _ _ _=>b
 | _=>[]
def A4 (s:Stmt):Scope:=match s with
 | .FunctionDef _ _ _ _ _ _ sc _ _ _=>sc
 | _=>{ kind := .function,names:=[],isGenerator:=false,isCoroutine:=false }
abbrev E0:XK:=fun _ _ _=>False
structure Dn (K:PySem.W.Frag) (x qual:Str) (st:Stmt) (f:Addr) (fd:FuncData):Prop where
 ex:∃ (oc:Value) (od:Option Addr) (kV doc pm:Value) (an:Option Addr) (dB ct:Value) (lG:Array (Option Value)),
  fd = PySem.W.fnOf x qual (Ag st) (Ac st) (A4 st) .none kV doc pm an dB ct /\ K.lookup f = some ⟨oc,od,.func fd,lG⟩ /\ PySem.W.codeIn K dB qual = true
 kp:PySem.W.keepIn K (.ref f) = true
section
variable {P:Program} {w:World} {K:PySem.W.Frag} {mg:Str -> Option Value} {base:Heap}
theorem Dn.binds {x qual : Str} {st : Stmt} {f : Addr} {fd : FuncData} {ps : List Str} (F : Dn K x qual st f fd)
  (h:∀ (kV doc pm:Value) (an:Option Addr) (dB ct:Value) (us:List Value),us.length = ps.length -> bindArgs (PySem.W.fnOf x qual (Ag st) (Ac st) (A4 st) .none kV doc pm an dB ct) ⟨us,[]⟩ = pure (ps.zip us)):Ah K fd ps []:=by
 obtain ⟨oc,od,kV,doc,pm,an,dB,ct,lG,rfl,lk,oY⟩ := F.ex
 exact .all (h kV doc pm an dB ct)
theorem Ay {x qual : Str} {st : Stmt} {f : Addr} {oc : Value} {od an : Option Addr} {lG : Array (Option Value)} {kV doc pm dB ct : Value} (l : K.lookup f = some ⟨oc, od, .func (PySem.W.fnOf x qual (Ag st) (Ac st) (A4 st) .none kV doc pm an dB ct), lG⟩)
  (c:PySem.W.codeIn K dB qual = true) (k:PySem.W.keepIn K (.ref f) = true):Dn K x qual st f (PySem.W.fnOf x qual (Ag st) (Ac st) (A4 st) .none kV doc pm an dB ct):=⟨⟨oc,od,kV,doc,pm,an,dB,ct,lG,rfl,l,c⟩,k⟩
end
theorem B3 {n:Nat} (h:n <= 1000):n < sizeLine:=Nat.lt_of_le_of_lt h (by decide)
section
variable {X:Cx}
theorem pv (i : Nat) {x : Str} {pos : Pos} (hN : X.N[i]? = some x := by rfl) (hv : l5 X.env.scope x := by first | exact Or.inl rfl | exact Or.inr (Or.inl rfl) | exact Or.inr (Or.inr rfl)) (hd : (x == ("__debug__" : Str)) = false := by decide)
  (oY:(x == ("__classdict__" : Str)) = false:=by decide):PE X (.Name x pos) (k9 i):=dn hN hv hd oY
end
theorem E9 {c A B:Prop} [Decidable c] (h1:c -> A) (h2:¬ c -> B):if c then A else B:=by
 by_cases h:c
 ·rw [if_pos h]
  exact h1 h
 ·rw [if_neg h]
  exact h2 h
def A6 (H H':Hp):Prop := ∀ b o,H b = some o -> H' b = some o
theorem A6.refl (H:Hp):A6 H H:=fun _ _ h=>h
theorem A6.trans {H H1 H2:Hp} (a:A6 H H1) (b:A6 H1 H2):A6 H H2:=fun c o h=>b c o (a c o h)
theorem A6.free {H H':Hp} (e:A6 H H') {l:Addr} (h:H' l = Option.none):H l = Option.none:=by
 cases q:H l with
 | none=>rfl
 | some o =>
  rw [e l o q] at h
  cases h
theorem A6.seq {K:PySem.W.Frag} {H H':Hp} {a:Addr} {xs:List V} (e:A6 H H') (h:B5 K H a xs):B5 K H' a xs:=by
 rcases h with (h | ⟨o,h⟩) | h
 ·exact .inl (.inl (e _ _ h))
 ·exact .inl (.inr ⟨o,e _ _ h⟩)
 ·exact .inr h
def Ec (cells:List (Str × Addr)):List (Str × NameKind) -> List (Str × Addr) -> List (Str × Addr)
 | [],cs=>cs
 | (n,k) :: r,cs=>if k == NameKind.free then Ec cells r ((n,(cells.lookup n).getD 0) :: cs) else Ec cells r cs
theorem Ht {cells : List (Str × Addr)} {x : Str} {c : Addr} : ∀ {names : List (Str × NameKind)} {cs : List (Str × Addr)}, (Ec cells names cs).lookup x = some c ->
  cs.lookup x = some c \/ ((x,NameKind.free) ∈ names /\ c = (cells.lookup x).getD 0)
 | [],cs,h=>.inl h
 | (n,k) :: r,cs,h=>by
  unfold Ec at h
  by_cases hk:(k == NameKind.free) = true
  ·rw [if_pos hk] at h
   rcases Ht h with h1 | ⟨h1,h2⟩
   ·rw [List.lookup_cons] at h1
    by_cases hx:(x == n) = true
    ·rw [hx] at h1
     have e:x = n:=eq_of_beq hx
     have e2:k = NameKind.free:=eq_of_beq hk
     subst e e2
     exact .inr ⟨List.mem_cons_self,(Option.some.inj h1).symm⟩
    ·have hx':(x == n) = false:=by simpa using hx
     rw [hx'] at h1
     exact .inl h1
   ·exact .inr ⟨List.mem_cons_of_mem _ h1,h2⟩
  ·rw [if_neg hk] at h
   rcases Ht h with h1 | ⟨h1,h2⟩
   ·exact .inl h1
   ·exact .inr ⟨List.mem_cons_of_mem _ h1,h2⟩
theorem Gd {cells:List (Str × Addr)} {x:Str}:∀ {names:List (Str × NameKind)} {cs:List (Str × Addr)},(∃ c,cs.lookup x = some c) -> ∃ c,(Ec cells names cs).lookup x = some c
 | [],cs,h=>h
 | (n,k) :: r,cs,h=>by
  unfold Ec
  by_cases hk:(k == NameKind.free) = true
  ·rw [if_pos hk]
   refine Gd ?_
   rw [List.lookup_cons]
   cases hx:x == n with
   | true=>exact ⟨_,rfl⟩
   | false=>exact h
  ·rw [if_neg hk]
   exact Gd h
theorem Eo {cells:List (Str × Addr)} {x:Str}:∀ {names:List (Str × NameKind)} {cs:List (Str × Addr)},(x,NameKind.free) ∈ names -> ∃ c,(Ec cells names cs).lookup x = some c
 | [],cs,h=>by cases h
 | (n,k) :: r,cs,h=>by
  unfold Ec
  rcases List.mem_cons.mp h with e | h
  ·have e1:x = n:=congrArg Prod.fst e
   have e2:NameKind.free = k:=congrArg Prod.snd e
   subst e1 e2
   rw [if_pos (by decide)]
   refine Gd ⟨(cells.lookup x).getD 0,?_⟩
   rw [List.lookup_cons,beq_self_eq_true]
  ·by_cases hk:(k == NameKind.free) = true
   ·rw [if_pos hk]
    exact Eo h
   ·rw [if_neg hk]
    exact Eo h
theorem F7 {env : Env} : ∀ {names : List (Str × NameKind)} {x : Str} {k' : NameKind}, (∀ y ∈ names, y.2 ≠ NameKind.cell) -> k' ≠ .local -> (k' = .cell \/ k' = .free) ->
  (names.map fun (n,k)=>if (k == NameKind.free && env.scope.kind == .function && env.kindOf n == some .cell) then (n,NameKind.cell) else (n,k)).lookup x = some k' -> (x,NameKind.free) ∈ names
 | [],_,_,_,_,_,h=>by simp at h
 | (n,k) :: r,x,k',hc,hl,kY,h=>by
  have ih:=@F7 env r x k' (fun y hy=>hc y (List.mem_cons_of_mem _ hy)) hl kY
  have h0:List.lookup x ((if (k == NameKind.free && env.scope.kind == .function && env.kindOf n == some .cell) = true then (n,NameKind.cell) else (n,k)) :: (r.map fun (n,k)=>if (k == NameKind.free && env.scope.kind == .function && env.kindOf n == some .cell) then (n,NameKind.cell) else (n,k))) = some k':=h
  by_cases w8:(k == NameKind.free && env.scope.kind == .function && env.kindOf n == some .cell) = true
  ·rw [if_pos w8,List.lookup_cons] at h0
   have e2:k = NameKind.free:=by
    have q:=(Bool.and_eq_true_iff.mp (Bool.and_eq_true_iff.mp w8).1).1
    exact eq_of_beq q
   cases hx:x == n with
   | true =>
    have e:x = n:=eq_of_beq hx
    subst e e2
    exact List.mem_cons_self
   | false =>
    rw [hx] at h0
    exact List.mem_cons_of_mem _ (ih h0)
  ·rw [if_neg w8,List.lookup_cons] at h0
   cases hx:x == n with
   | true =>
    rw [hx] at h0
    have e:x = n:=eq_of_beq hx
    have e3:k = k':=Option.some.inj h0
    subst e e3
    rcases kY with z | z
    ·exact absurd z (hc _ List.mem_cons_self)
    ·subst z
     exact List.mem_cons_self
   | false =>
    rw [hx] at h0
    exact List.mem_cons_of_mem _ (ih h0)
structure Ca (sc scope:Scope) (N eS:List Str) (fr:List Nat):Prop where
 kind:scope.kind = .function
 mL:∀ y ∈ scope.names,y.2 ≠ NameKind.cell
 loc:∀ y ∈ scope.names,y.2 = NameKind.local -> scope.names.lookup y.1 = some NameKind.local
 free:∀ y ∈ scope.names,y.2 = NameKind.free -> sc.names.lookup y.1 = some NameKind.cell
 gR:∀ j ∈ fr,(N[j]?.bind fun x=>scope.names.lookup x) = some NameKind.free
def Bh (N eS:List Str) (fr:List Nat):List Str:=eS ++ fr.map fun j=>(N[j]?).getD ⟨#[]⟩
def Cz (fr:List Nat) (σ:St):St:=fr.map fun j=>(σ[j]?).getD none
def Ei (n:Nat) (fr:List Nat) (σ:St):St:=List.replicate n none ++ Cz fr σ
def Cd (X:Cx) (Nc:List Str) (scope:Scope) (C:Addr) (s2:Shared) (H2:Hp) (fp:List Addr):Cx :=
 { X with N:=Nc,s₀:=s2,H₀:=H2,env:=compEnvC scope (Ec X.env.cells scope.names []) C X.env,outer:=X.stack,ex:=fp,fn:=fun _=>false,pn:=[],xe:=fun _ _=>False }
def gv (X:Cx) (ifs:List Expr) (t:TT):Prop :=
 ∀ (pins:List (Addr × Obj)) (s:Shared) (σ:St) (H:Hp) (Q:Bool -> Hp -> Prop),Ai X pins σ H s -> t σ H Q ->
  wpAny (model X.prog X.w) X.A (forIn ifs true fun c r=>if r = true then do let ok <- isTrue c X.env (eval c X.env); pure (ForInStep.yield ok) else pure (ForInStep.yield r)) (TP X pins σ Q) X.xe s
def P8:TT:=fun _ H Q=>Q true H
theorem Cr {X:Cx}:gv X [] P8:=fun _ _ _ H _ I h=>wpAny_tests_nil ⟨H,I,h⟩
theorem Om {X:Cx} {c:Expr} {t:TT} (h:PT X c t):gv X [c] t:=fun pins s σ H Q I hq=>wpAny_tests_one (h pins s σ H Q I hq)
section
variable {prog:Program} {w:World} {A:Around} {R:Result -> Shared -> Prop} {s:Shared}
theorem O1 {elt target iter : Expr} {ifs : List Expr} {scope : Scope} {pos : Pos} {it acc : Value} {env : Env} (I : Nat -> Shared -> Prop)
  (turn:∀ n s,I n s -> wpAny (model prog w) A (pyNext it) (fun r s₁=>match r with
   | none=>R (.ok .next) s₁
   | some v => wpAny (model prog w) A (letOwnedTupleGo target it v) (fun _ s₁' => wpAny (model prog w) A (assign target env v) (fun _ s₂ =>
     wpAny (model prog w) A (forIn ifs true fun c r=>if r = true then do let ok <- isTrue c env (eval c env); pure (ForInStep.yield ok) else pure (ForInStep.yield r)) (fun ok s₃ =>
      if ok = true then wpAny (model prog w) A (eval elt env) (fun x s₄ =>
       wpAny (model prog w) A (call (.builtin "list.append") [acc,x]) (fun _ s₅=>∃ m,m < n /\ I m s₅) (fun _ _=>False) s₄) (fun _ _=>False) s₃
      else ∃ m,m < n /\ I m s₃) (fun _ _=>False) s₂) (fun _ _=>False) s₁') (fun _ _=>False) s₁) (fun _ _=>False) s)
  (n:Nat) (h:I n s) :
  codeAny (model prog w) A (.compLoop (.ListComp elt [⟨target,iter,ifs,0⟩] scope pos) 0 it acc env) R s:=by
 refine codeAny_loop rfl I (fun n s hI=>?_) n h
 show wpAny _ A ((compTurn (.ListComp elt [⟨target,iter,ifs,0⟩] scope pos) 0 it acc env).onRaise (fun x=>do noteFrame x env; theTreesLotGoes x)) _ _ s
 refine wpAny_noted ?_
 rw [compTurn_list]
 refine wpAny_bind (wpAny_standAt (wpAny_bind (wpAny_mono (turn n s hI) (fun r s₁ h₁=>?_) fun _ _ h'=>h'.elim)))
 cases r with
 | none=>exact wpAny_pure h₁
 | some v =>
  refine wpAny_bind (wpAny_mono h₁ (fun _ s₁' h₁'=>?_) fun _ _ h'=>h'.elim)
  refine wpAny_bind (wpAny_mono h₁' (fun _ s₂ h₂=>wpAny_bind (wpAny_mono h₂ (fun ok s₃ h₃=>?_) fun _ _ h'=>h'.elim)) fun _ _ h'=>h'.elim)
  cases ok with
  | false=>exact wpAny_pure ⟨rfl,h₃⟩
  | true =>
   exact wpAny_bind (wpAny_bind (wpAny_mono h₃ (fun x s₄ h₄=>wpAny_bind (wpAny_mono h₄ (fun _ s₅ h₅=>wpAny_pure (wpAny_pure ⟨rfl,h₅⟩)) fun _ _ h'=>h'.elim)) fun _ _ h'=>h'.elim))
end
def Di (n:Nat) (fr:List Nat) (J:It) (g:TG) (tt:TT) (te:TE) (σ:St) (D:Addr) (H1:Hp) (Q:Hp -> Prop):Prop :=
 ∃ W:Nat -> Nat -> List V -> Hp -> Prop,(∃ m,W 0 m [] (upd H1 D (.lst []))) /\ ∀ i m ys H',W i m ys H' ->
  (J.stop i H' /\ Q H') \/ (J.go i H' /\ ∀ x H2,J.vX i H' x H2 -> g x (Ei n fr σ) H2 fun σ3 H3=>(∃ zs:St,zs.length = n /\ σ3 = zs ++ Cz fr σ) /\ tt σ3 H3 fun b H4 =>
   if b = true then te σ3 H4 fun y H5=>H5 D = some (.lst ys) /\ ys.length < sizeLine /\ ∃ m',m' < m /\ W (i + 1) m' (ys ++ [y]) (upd H5 D (.lst (ys ++ [y])))
   else ∃ m',m' < m /\ W (i + 1) m' ys H4)
def jq (n:Nat) (fr:List Nat) (wi:TI) (g:TG) (tt:TT) (te:TE):TE:=fun σ H Q=>wi σ H fun J H1=>∀ D,H1 D = none -> Di n fr J g tt te σ D H1 (Q (.ref D))
def Ya (n:Nat) (fr:List Nat) (wi:TI) (g:TG) (tt:TT) (te:TE) (i:Nat):TS:=fun D σ H=>wi σ H fun J H1=>∀ l,H1 l = none -> Di n fr J g tt te σ l H1 (D.nx (σ.set i (some (.ref l))))
section
variable {X:Cx} {tg iter elt:Expr} {ifs:List Expr} {scope sc:Scope} {eS:List Str} {fr:List Nat} {wi:TI} {g:TG} {tt:TT} {te:TE} {pos:Pos}
theorem Me {pins : List (Addr × Obj)} {σ : St} {H2 : Hp} {s2 : Shared} {it : Addr} {fp : List Addr} {tn : Nat -> Heap -> Prop} {J : It} {RR : Value -> Addr -> Result -> Shared -> Prop} {E : Value -> Shared -> Prop} {Qf : Hp -> Prop}
  (GO:X.env.scope = sc) (S:Ca sc scope X.N eS fr) (hc:X.calm = true)
  (hg:∀ C s2 H2 fp,PG (Cd X (Bh X.N eS fr) scope C s2 H2 fp) tg g) (ht:∀ C s2 H2 fp,gv (Cd X (Bh X.N eS fr) scope C s2 H2 fp) ifs tt) (he:∀ C s2 H2 fp,PE (Cd X (Bh X.N eS fr) scope C s2 H2 fp) elt te)
  (I2:Ai X pins σ H2 s2) (T:Pk X.prog X.w X.K tg J fp it tn) (tY:tn 0 s2.heap) (f2:∀ b ∈ fp,Je X pins H2 b)
  (run:Di eS.length fr J g tt te σ s2.heap.objs.size H2 Qf)
  (hRR:∀ (C:Addr) (H3:Hp) (s4:Shared),Ai X pins σ H3 s4 -> Je X pins H3 C -> (∃ m,s4.heap.Ns C m) -> Qf H3 -> RR (.ref s2.heap.objs.size) C (.ok .next) s4) :
  wpAny (model X.prog X.w) X.A (newList []) (fun acc s₃=>wpAny (model X.prog X.w) X.A (newFunctionEnv scope X.env.globals (Ec X.env.cells scope.names []) [] X.env.qual none .none (some X.env)) (fun IK s₄ =>
   codeAny (model X.prog X.w) X.A (.compStart (.ListComp elt [⟨tg,iter,ifs,0⟩] scope pos) 0 (.ref it) acc { IK with scope:=relabel scope X.env }) (RR acc IK.locals) s₄) E s₃) E s2:=by
 refine wpAny_newObj_type (wpAny_newFunctionEnv S.mL (by intro y hy; simp at hy) (fun h₁ wa sS=>?_) S.kind)
 dsimp only at wa sS ⊢
 generalize TF:s2.heap.push { cls := .type "list",dict:=none,data := .seq ([]:List Value).toArray } = G2 at wa sS ⊢
 have hC:G2.objs.size = s2.heap.objs.size + 1:=by rw [<- TF,Heap.size_push]
 have hDC:s2.heap.objs.size ≠ G2.objs.size:=by rw [hC]; exact Nat.ne_of_lt (Nat.lt_succ_self _)
 have hle:s2.heap.objs.size <= G2.objs.size:=by rw [hC]; exact Nat.le_succ _
 have below:∀ b,b < s2.heap.objs.size -> b ≠ G2.objs.size /\ b ≠ s2.heap.objs.size:=fun b hb=>⟨Nat.ne_of_lt (Nat.lt_of_lt_of_le hb hle),Nat.ne_of_lt hb⟩
 have old:∀ b o,s2.heap.get? b = some o -> h₁.get? b = some o:=fun b o e=>sS.extBut b o (below b (Heap.lt_size e)).1 (Heap.get?_push_of_some _ (TF ▸ Heap.get?_push_of_some _ e))
 have TH:h₁.get? s2.heap.objs.size = some { cls := .type "list",data := .seq ([]:List Value).toArray 0 }:=sS.extBut _ _ hDC (Heap.get?_push_of_some _ (TF ▸ Heap.get?_push_size _ rfl))
 have wb:∀ y ∈ scope.names,y.2 = NameKind.free -> ∃ c,X.env.cells.lookup y.1 = some c:=fun y hy e=>I2.ok.has y.1 (.inl (by show X.env.scope.names.lookup y.1 = _; rw [GO]; exact S.free y hy e))
 have mM:∀ x c,(Ec X.env.cells scope.names []).lookup x = some c -> X.env.cells.lookup x = some c:=fun x c e=>by
  rcases Ht e with z | ⟨z1,z2⟩
  ·simp at z
  ·obtain ⟨c',e'⟩ := wb _ z1 rfl
   rw [z2,e']
   rfl
 have wc:∀ x c,X.env.cells.lookup x = some c -> c < s2.heap.objs.size:=fun x c e=>by
  obtain ⟨v,q⟩ := I2.cell x c e
  exact q.lt
 have we:∀ b ∈ fp,b < s2.heap.objs.size:=fun b hb=>by
  obtain ⟨o,e,_⟩ := T.obj 0 _ tY b hb
  exact Heap.lt_size e
 have TJ:(Cd X (Bh X.N eS fr) scope G2.objs.size s2 H2 fp).Ok:=by
  refine ⟨I2.ok.mod,S.kind,I2.ok.glob,I2.ok.blt,hle,fun x y c e1 e2=>I2.ok.inj x y c (mM x c e1) (mM y c e2),fun x hx=>?_,fun x c z _=>absurd z Bool.false_ne_true,I2.ok.hd,I2.ok.frames,.inl rfl,
   fun b hb=>⟨(below b (we b hb)).1,fun x c e=>(f2 b hb).2.2.2.2.1 x c (mM x c e)⟩,I2.bs,Nat.le_trans I2.ok.oX I2.sz,fun b o e hb=>?_,fun b hb z=>?_,I2.stack,I2.fI⟩
  ·rcases hx with hx | hx
   ·exact Eo (F7 (env:=X.env) S.mL (by decide) (.inl rfl) hx)
   ·exact Eo (F7 (env:=X.env) S.mL (by decide) (.inr rfl) hx)
  ·rcases (f2 b hb).2.2.2.1 with z | z
   ·exact I2.ok.mF b o e z
   ·exact absurd (Nat.lt_of_lt_of_le (Heap.lt_size e) (Nat.le_trans I2.ok.oX z)) (Nat.lt_irrefl _)
  ·rcases List.mem_cons.mp (I2.mH b z) with z | z
   ·exact (f2 b hb).2.1 z
   ·exact (f2 b hb).2.2.1 z
 have I3:Ai (Cd X (Bh X.N eS fr) scope G2.objs.size s2 H2 fp) [] (Ei eS.length fr σ) (upd H2 s2.heap.objs.size (.lst [])) { s2 with heap:=h₁,toks:=s2.toks + ([]:List (Str × Value)).length }:=by
  refine ⟨TJ,rfl,I2.bare,Un.laid old (Nat.le_refl _) I2.fresh,⟨_,wa,fun i x v e1 e2 e3=>?_⟩,fun x c e=>?_,?_,fun x c e=>?_,fun p hp=>absurd (show p ∈ ([]:List (Addr × Obj)) from hp) (by simp),I2.aS.laid old (Nat.le_refl _) ⟨Nat.zero_le _,[],0,.nil,TH⟩,?_⟩
  ·-- a name of the comprehension that has a value at the start is one of the def's cells
   have hi:eS.length <= i:=by
    refine Nat.le_of_not_lt fun dE=>?_
    unfold Ei at e2
    rw [List.getElem?_append_left (by simpa using dE),List.getElem?_replicate,if_pos dE] at e2
    cases e2
   have QT:(Cz fr σ)[i - eS.length]? = some (some v):=by
    unfold Ei at e2
    rw [List.getElem?_append_right (by simpa using hi)] at e2
    simpa using e2
   have p6:(fr.map fun j=>(X.N[j]?).getD ⟨#[]⟩)[i - eS.length]? = some x:=by
    have e1:(Bh X.N eS fr)[i]? = some x:=e1
    unfold Bh at e1
    rw [List.getElem?_append_right hi] at e1
    exact e1
   unfold Cz at QT
   rw [List.getElem?_map] at p6 QT
   cases ej:fr[i - eS.length]? with
   | none=>rw [ej] at p6; cases p6
   | some j =>
    rw [ej] at p6 QT
    have e1j:(X.N[j]?).getD ⟨#[]⟩ = x:=Option.some.inj p6
    have QU:(σ[j]?).getD none = some v:=Option.some.inj QT
    have kZ:=S.gR j (List.mem_of_getElem? ej)
    cases eN:X.N[j]? with
    | none=>rw [eN] at kZ; cases kZ
    | some x' =>
     rw [eN] at kZ e1j
     have ex:x' = x:=e1j
     subst ex
     have hfx:scope.names.lookup x' = some NameKind.free:=kZ
     have hσ:σ[j]? = some (some v):=by
      cases eσ:σ[j]? with
      | none=>rw [eσ] at QU; cases QU
      | some o=>rw [eσ] at QU; exact congrArg some QU
     have iH:=PySem.mem_of_lookup hfx
     have hkc:X.env.scope.names.lookup x' = some NameKind.cell:=by rw [GO]; exact S.free _ iH rfl
     obtain ⟨m,hn,hl⟩ := I2.loc
     obtain ⟨u,ru,lk⟩ := hl j x' v eN hσ (.inr (.inl hkc))
     refine ⟨u,ru,.inr ⟨?_,?_⟩⟩
     ·have e3:(relabel scope X.env).names.lookup x' = some NameKind.local \/ (relabel scope X.env).names.lookup x' = some NameKind.cell \/ (relabel scope X.env).names.lookup x' = some NameKind.free:=e3
      rcases e3 with z | z | z
      ·exfalso
       have key:∀ (names:List (Str × NameKind)),names.lookup x' = some NameKind.free -> (names.map fun (n,k)=>if (k == NameKind.free && X.env.scope.kind == .function && X.env.kindOf n == some .cell) then (n,NameKind.cell) else (n,k)).lookup x' ≠ some NameKind.local:=by
        intro names
        induction names with
        | nil=>intro h; simp at h
        | cons p r ih =>
         obtain ⟨n,k⟩ := p
         intro h h2
         have h2:List.lookup x' ((if (k == NameKind.free && X.env.scope.kind == .function && X.env.kindOf n == some .cell) = true then (n,NameKind.cell) else (n,k)) :: (r.map fun (n,k)=>if (k == NameKind.free && X.env.scope.kind == .function && X.env.kindOf n == some .cell) then (n,NameKind.cell) else (n,k))) = some NameKind.local:=h2
         rw [List.lookup_cons] at h
         cases hx:x' == n with
         | true =>
          rw [hx] at h
          have ek:k = NameKind.free:=Option.some.inj h
          subst ek
          split at h2
          ·rw [List.lookup_cons,hx] at h2; cases h2
          ·rw [List.lookup_cons,hx] at h2; cases h2
         | false =>
          rw [hx] at h
          split at h2
          ·rw [List.lookup_cons,hx] at h2; exact ih h h2
          ·rw [List.lookup_cons,hx] at h2; exact ih h h2
       exact key scope.names hfx z
      ·exact .inl z
      ·exact .inr z
     ·obtain ⟨c,ec⟩ := Eo (cells:=X.env.cells) (cs:=[]) iH
      rcases lk with ⟨k1,_⟩ | ⟨_,c',ec',ic⟩
      ·have k1:X.env.scope.names.lookup x' = some NameKind.local:=k1
       rw [hkc] at k1; cases k1
      ·have q:=mM _ _ ec
       rw [ec'] at q
       have q':c' = c:=Option.some.inj q
       subst q'
       exact ⟨_,ec,ic.keeps old⟩
  ·obtain ⟨v,q⟩ := I2.cell x c (mM x c e)
   exact ⟨v,q.keeps old⟩
  ·show upd H2 s2.heap.objs.size (.lst []) G2.objs.size = none
   rw [A8 hDC.symm]
   exact I2.aS.fresh hle
  ·rw [A8 (Nat.ne_of_lt (wc x c (mM x c e)))]
   exact I2.dW x c (mM x c e)
  ·unfold Ei Cz
   show _ = (Bh X.N eS fr).length
   unfold Bh
   simp
 obtain ⟨W,⟨m0,w0⟩,turn⟩ := run
 have stat:∀ {H':Hp},(∀ b ∈ fp,H' b = none) -> ∀ b ∈ fp,Je (Cd X (Bh X.N eS fr) scope G2.objs.size s2 H2 fp) [] H' b:=fun hn b hb =>
  ⟨hn b hb,(below b (we b hb)).1,TJ.mG b hb,.inl hb,(TJ.HR b hb).2,fun p hp=>absurd (show p ∈ ([]:List (Addr × Obj)) from hp) (by simp)⟩
 have QP:∀ b ∈ fp,upd H2 s2.heap.objs.size (.lst []) b = none:=fun b hb=>by rw [A8 (below b (we b hb)).2]; exact (f2 b hb).1
 have HW:tn 0 h₁:=T.keep 0 _ _ tY fun b _ o e=>old b o e
 have fin:∀ {H3:Hp} {s4:Shared},Ai (Cd X (Bh X.N eS fr) scope G2.objs.size s2 H2 fp) [] (Ei eS.length fr σ) H3 s4 -> Qf H3 -> RR (.ref s2.heap.objs.size) G2.objs.size (.ok .next) s4:=fun {H3 s4} I4 q=>by
  obtain ⟨m,hn,_⟩ := id I4.loc
  have ub:Un (gR X.stack) fp H2 H3 s2.heap s4.heap:=I4.base
  refine hRR G2.objs.size H3 s4 (I2.tV (ch:=fp) (s':=s4) I4.os ub I4.aS I4.bare fun b hb=>⟨(f2 b hb).2.2.2.1,(f2 b hb).2.1,(f2 b hb).2.2.2.2.1,(f2 b hb).2.2.2.2.2⟩) (I2.mI hle I4.free) ⟨m,hn⟩ q
 have loop : ∀ s₃ : Shared, s₃ = { s2 with heap := h₁, toks := s2.toks + ([] : List (Str × Value)).length } ->
   codeAny (model X.prog X.w) X.A (.compLoop (.ListComp elt [⟨tg,iter,ifs,0⟩] scope pos) 0 (.ref it) (.ref s2.heap.objs.size) (compEnvC scope (Ec X.env.cells scope.names []) G2.objs.size X.env)) (RR (.ref s2.heap.objs.size) G2.objs.size) s₃:=by
  rintro s₃ rfl
  refine O1 (fun n s'=>∃ i ys H',Ai (Cd X (Bh X.N eS fr) scope G2.objs.size s2 H2 fp) [] (Ei eS.length fr σ) H' s' /\ tn i s'.heap /\ (∀ b ∈ fp,H' b = none) /\ W i n ys H') ?_ m0 ⟨0,[],_,I3,HW,QP,w0⟩
  rintro n s5 ⟨i,ys,H3,J3,sti,fri,w3⟩
  rcases turn i n ys H3 w3 with ⟨stop,q⟩ | ⟨go,step⟩
  ·refine wpAny_mono (T.done (Cd X (Bh X.N eS fr) scope G2.objs.size s2 H2 fp) rfl rfl rfl hc i [] s5 _ H3 (fun _ _=>False) J3 (stat fri) sti stop) (fun r s6 ⟨hr,J4⟩=>?_) (fun _ _ f=>f)
   subst hr
   exact fin J4 q
  ·refine wpAny_mono (T.item (Cd X (Bh X.N eS fr) scope G2.objs.size s2 H2 fp) rfl rfl rfl hc i [] s5 _ H3 (fun _ _=>False) J3 (stat fri) sti go) (fun r s6 ⟨u,hr,h6⟩=>?_) (fun _ _ f=>f)
   subst hr
   refine wpAny_mono h6 (fun _ s7 ⟨x,H7,J7,r7,y7,TK,fr7⟩=>?_) (fun _ _ f=>f)
   have J7':=J7.pinned (stat fr7) (T.obj _ _ TK)
   refine wpAny_mono (hg G2.objs.size s2 H2 fp _ s7 _ H7 x u _ J7' r7 (step x H7 y7)) (fun _ s8 ⟨σ8,H8,J8,⟨zs,hz,e8⟩,q8⟩=>?_) (fun _ _ f=>f)
   have again : ∀ {H9 : Hp} {s9 : Shared} {TL : List V}, Ai (Cd X (Bh X.N eS fr) scope G2.objs.size s2 H2 fp) ([] ++ L5 fp s7.heap) σ8 H9 s9 -> (∃ m', m' < n /\ W (i + 1) m' TL H9) ->
     ∃ m,m < n /\ ∃ i ys H',Ai (Cd X (Bh X.N eS fr) scope G2.objs.size s2 H2 fp) [] (Ei eS.length fr σ) H' s9 /\ tn i s9.heap /\ (∀ b ∈ fp,H' b = none) /\ W i m ys H':=fun {H9 s9 TL} J9 ⟨m',hm,w9⟩=>by
    refine ⟨m',hm,i + 1,TL,H9,J9.fV.weak ?_ ?_,T.keep _ _ _ TK fun b hb o e=>(J9.pin (b,o) (List.mem_append_right _ (List.mem_append_right _ (F1 hb e)))).1,fun b hb=>?_,w9⟩
    ·rw [e8]; unfold Ei; simp [hz]
    ·intro k v ek
     rw [e8]
     unfold Ei at ek
     by_cases hk:k < eS.length
     ·rw [List.getElem?_append_left (by simpa using hk),List.getElem?_replicate,if_pos hk] at ek
      cases ek
     ·rw [List.getElem?_append_right (by simpa using hk)] at ek
      rw [List.getElem?_append_right (by omega),hz]
      simpa using ek
    ·obtain ⟨o,e,d⟩ := T.obj _ _ TK b hb
     exact (J9.pin (b,o) (List.mem_append_right _ (List.mem_append_right _ (F1 hb e)))).2.1
   refine wpAny_mono (ht G2.objs.size s2 H2 fp _ s8 σ8 H8 _ J8 q8) (fun ok s9 ⟨H9,J9,q9⟩=>?_) (fun _ _ f=>f)
   cases ok with
   | false =>
    rw [if_neg Bool.false_ne_true] at q9 ⊢
    exact again J9 q9
   | true =>
    rw [if_pos rfl] at q9 ⊢
    refine wpAny_mono (he G2.objs.size s2 H2 fp _ s9 σ8 H9 _ J9 q9) (fun y lA ⟨v10,kL,J10,r10,hD,hlen,TM⟩=>?_) (fun _ _ f=>f)
    refine wpAny_mono (Cq (X:=Cd X (Bh X.N eS fr) scope G2.objs.size s2 H2 fp) _ lA σ8 kL (.ref s2.heap.objs.size) [v10] (.ref s2.heap.objs.size) [y] (fun _ QV=>QV = upd kL s2.heap.objs.size (.lst (ys ++ [v10]))) J10 rfl (.cons r10 .nil) ⟨_,ys,v10,rfl,rfl,hD,hlen,rfl⟩) (fun _ s11 ⟨_,QV,J11,_,GP⟩=>?_) (fun _ _ f=>f)
    subst GP
    exact again J11 TM
 exact codeAny_compStart_list (loop _ rfl) (T.self _ 0 _ _ _ HW (loop _ rfl))
theorem Dk (hi : PI X tg iter wi) (sc : Scope) (GO : X.env.scope = sc) (S : Ca sc scope X.N eS fr) (hc : X.calm = true) (p7 : closureFor scope X.env = pure (Ec X.env.cells scope.names []))
  (hg:∀ C s2 H2 fp,PG (Cd X (Bh X.N eS fr) scope C s2 H2 fp) tg g) (ht:∀ C s2 H2 fp,gv (Cd X (Bh X.N eS fr) scope C s2 H2 fp) ifs tt) (he:∀ C s2 H2 fp,PE (Cd X (Bh X.N eS fr) scope C s2 H2 fp) elt te)
  (hs:∀ x,foldedSetIterable iter X.env x = pure x:=by intro _; rfl):PE X (.ListComp elt [⟨tg,iter,ifs,0⟩] scope pos) (jq eS.length fr wi g tt te):=by
 intro pins s σ H Q I h
 rw [eval_ListComp]
 refine wpAny_comprehension_free (use:=none) rfl hs p7 S.kind S.loc (wpAny_mono (hi pins s σ H _ I h) (fun v s1 h1=>wpAny_mono h1 (fun QO s2 h2=>?_) fun _ _ e=>e) fun _ _ e=>e)
 obtain ⟨it,fp,tn,J,H2,e,I2,T,tY,f2,R2⟩ := h2
 subst e
 refine Me (RR:=fun acc C=>compPost (model X.prog X.w) X.A X.xe none (EP X pins σ Q) acc C) GO S hc hg ht he I2 T tY f2 (R2 _ I2.fresh) ?_
 intro C H3 s4 I4 fC ⟨m,hn⟩ q
 refine ⟨m,hn,fun h' IL=>⟨.ref s2.heap.objs.size,H3,?_,rfl,q⟩⟩
 obtain ⟨hh,gg,dd,TN,oo⟩ := s4
 exact I4.turned (h':=h') (t':=TN) (it:=C) (fun b o hb e=>IL.extBut b o hb e) fC.1 fC.2.1 fC.2.2.2.1 fC.2.2.2.2.1 fC.2.2.2.2.2
theorem Dg {i : Nat} {y : Str} {py IM : Pos} (hN : X.N.Nodup) (hiy : X.N[i]? = some y) (hi : PI X tg iter wi) (sc : Scope) (GO : X.env.scope = sc) (S : Ca sc scope X.N eS fr) (hc : X.calm = true)
  (p7:closureFor scope X.env = pure (Ec X.env.cells scope.names []))
  (hg:∀ C s2 H2 fp,PG (Cd X (Bh X.N eS fr) scope C s2 H2 fp) tg g) (ht:∀ C s2 H2 fp,gv (Cd X (Bh X.N eS fr) scope C s2 H2 fp) ifs tt) (he:∀ C s2 H2 fp,PE (Cd X (Bh X.N eS fr) scope C s2 H2 fp) elt te)
  (hy:X.env.scope.names.lookup y = some NameKind.local)
  (hsw:swapsWith (.ListComp elt [⟨tg,iter,ifs,0⟩] scope pos) (some (.Name y py)) IM.line X.env = pure true)
  (hs:∀ x,foldedSetIterable iter X.env x = pure x:=by intro _; rfl) :
  PS X (.Assign [.Name y py] (.ListComp elt [⟨tg,iter,ifs,0⟩] scope pos) IM) (Ya eS.length fr wi g tt te i):=by
 intro pins s σ H D I h
 rw [exec_Assign_Name_used _ _ _ _ hsw]
 refine wpAny_bind (wpAny_standAt (wpAny_bind ?_))
 show wpAny _ X.A (do let _ <- comprehension (.ListComp elt [⟨tg,iter,ifs,0⟩] scope pos) scope X.env _ (newList []) false (eval iter X.env) (some (assign (.Name y py) X.env))) _ _ s
 refine wpAny_bind (wpAny_mono (wpAny_comprehension_free (use:=some (assign (.Name y py) X.env)) (Q:=fun _ s'=>SP X pins D .next s') rfl hs p7 S.kind S.loc
  (wpAny_mono (hi pins s σ H _ I h) (fun v s1 h1=>wpAny_mono h1 (fun QO s2 h2=>?_) fun _ _ e=>e) fun _ _ e=>e)) (fun _ s' hq=>wpAny_pure (wpAny_pure hq)) fun _ _ e=>e)
 obtain ⟨it,fp,tn,J,H2,e,I2,T,tY,f2,R2⟩ := h2
 subst e
 refine Me (RR:=fun acc C=>compPost (model X.prog X.w) X.A X.xe (some (assign (.Name y py) X.env)) (fun _ s'=>SP X pins D .next s') acc C) GO S hc hg ht he I2 T tY f2 (R2 _ I2.fresh) ?_
 intro C H3 s4 I4 fC ⟨m,hn⟩ q
 refine wpAny_assign_Name (Np (v := .ref s2.heap.objs.size) I4 hN hiy (.inl hy) rfl (fun s5 I5 ⟨a,hsb,ha⟩=>?_) (.inr hy))
 have hLC:C ≠ a:=by
  rcases ha with z | z
  ·rw [z]; exact fC.2.1
  ·exact fun z2=>fC.2.2.2.2.1 y a z z2.symm
 refine ⟨m,hn.sameBut hsb hLC,fun h' IL=>⟨_,H3,?_,q⟩⟩
 obtain ⟨hh,gg,dd,TN,oo⟩ := s5
 exact I5.turned (h':=h') (t':=TN) (it:=C) (fun b o hb e=>IL.extBut b o hb e) fC.1 fC.2.1 fC.2.2.2.1 fC.2.2.2.2.1 fC.2.2.2.2.2
end
open PySem.Builtin.Int (intBits)
section
variable {X:Cx}
theorem Tn:G6 X (binaryOp .Mult) (rI IntMulOk fun i j=>.int (i * j)):=kf fun _ _ _ _ _ _ _ hc q=>mul_int q hc
end
theorem Zw {a b:Int} {m n:Nat} (ha:intBits a <= m) (hb:intBits b <= n) (h:m + n <= 134217728):IntMulOk a b:=PyProof.Rows.mulOk_of_bits ha hb h
def bn (T C:String):Option Bool:=if (Value.type T == Value.type C) = true then some true else if PySem.W.kitMeta C = true then (fastBuiltinMro T).map (·.contains (Value.type C)) else none
theorem Wv (K:PySem.W.Frag) (T C:String):PySem.W.kitOne K (.type T) (.type C) = bn T C:=rfl
section
variable {X:Cx}
def iz (K:PySem.W.Frag):List V -> Hp -> VK -> Prop:=fun xs H Q=>∃ x T C b,xs = [x,.ty C] /\ Hr K H x (.type T) /\ bn T C = some b /\ Q (.bl b) H
theorem Vz:D2 X (.builtin "isinstance") (iz X.K):=by
 intro pins s σ H xs us Q I r h
 obtain ⟨x,T,C,b,rfl,ty,e,q⟩ := h
 obtain ⟨u,w',rfl,rx,rc⟩ := Yd r
 obtain rfl:w' = Value.type C:=rc
 exact Uq I rx ty ((Wv X.K T C).trans e) fun tk=>⟨.bl b,H,I.tok _,rfl,q⟩
theorem Xh {x:Str} {T:String} {pos:Pos} (hg:Gl X x) (hm:X.mg x = none) (hv:bootBuiltins x = some (.type T)) (hn:x ≠ "__name__" := by decide) (hd:(x == ("__debug__" : Str)) = false:=by decide):PE X (.Name x pos) (tC (.ty T)) :=
 Za hg hm hv rfl hn hd
end
mutual
def Rp (H:Hp):PyData -> V -> Prop
 | .none,v=>v = .cZ
 | .bool b,v=>v = .bl b
 | .int i,v=>v = .int i
 | .tuple ds,v=>∃ a xs,v = .ref a /\ H a = some (.tup xs) /\ cL H ds xs
 | .list ds,v=>∃ a xs,v = .ref a /\ H a = some (.lst xs) /\ cL H ds xs
 | .str x,v=>v = .str x /\ PyData.strOk x = true
 | .dict _,_=>False
def cL (H:Hp):List PyData -> List V -> Prop
 | [],vs=>vs = []
 | d :: ds,vs=>∃ x xs,vs = x :: xs /\ Rp H d x /\ cL H ds xs
end
mutual
theorem Cw {H:Hp}:∀ (d:PyData) (v:V),Rp H d v -> d.canLay0 = true
 | .none,_,_=>rfl
 | .bool _,_,_=>rfl
 | .int _,_,_=>rfl
 | .tuple ds,_,h=>by
  unfold Rp at h
  obtain ⟨a,xs,_,_,h⟩ := h
  exact gS ds xs h
 | .list ds,_,h=>by
  unfold Rp at h
  obtain ⟨a,xs,_,_,h⟩ := h
  exact gS ds xs h
 | .str x,v,h=>by
  unfold Rp at h
  exact h.2
 | .dict _,_,h=>by unfold Rp at h; exact h.elim
theorem gS {H:Hp}:∀ (ds:List PyData) (vs:List V),cL H ds vs -> PyData.canLayAll0 ds = true
 | [],_,_=>rfl
 | d :: ds,vs,h=>by
  unfold cL at h
  obtain ⟨x,xs,_,h1,h2⟩ := h
  show (d.canLay0 && PyData.canLayAll0 ds) = true
  rw [Cw d x h1,gS ds xs h2]
  rfl
end
section
variable {X:Cx} {pins:List (Addr × Obj)} {σ:St} {H:Hp} {s:Shared}
mutual
theorem Cj (I:Ai X pins σ H s):∀ (d:PyData) (v:V) (u:Value),Rp H d v -> B4 v u -> ∃ as,Reads s.heap u d as
 | .none,v,u,h,r=>by
  unfold Rp at h
  subst h
  cases r
  exact ⟨_,.none⟩
 | .bool b,v,u,h,r=>by
  unfold Rp at h
  subst h
  cases r
  exact ⟨_,.bool b⟩
 | .int i,v,u,h,r=>by
  unfold Rp at h
  subst h
  obtain ⟨t,rfl⟩ := r
  exact ⟨_,.int i t⟩
 | .tuple ds,v,u,h,r=>by
  unfold Rp at h
  obtain ⟨a,xs,rfl,ha,h⟩ := h
  cases r
  obtain ⟨_,aU,rv,p⟩ := I.aS a _ ha
  obtain ⟨o,h1,h2,n,h3⟩ := p
  obtain ⟨as,q⟩ := fE I ds xs aU h rv
  exact ⟨_,.tuple h1 h2 h3 (by simpa using q)⟩
 | .list ds,v,u,h,r=>by
  unfold Rp at h
  obtain ⟨a,xs,rfl,ha,h⟩ := h
  cases r
  obtain ⟨_,aU,n,rv,p⟩ := I.aS a _ ha
  obtain ⟨as,q⟩ := fE I ds xs aU h rv
  exact ⟨_,.list p rfl rfl (by simpa using q)⟩
 | .str x,v,u,h,r=>by
  unfold Rp at h
  obtain ⟨rfl,_⟩ := h
  obtain ⟨t,rfl⟩ := r
  exact ⟨_,.str x t⟩
 | .dict _,_,_,h,_=>by unfold Rp at h; exact h.elim
theorem fE (I:Ai X pins σ H s):∀ (ds:List PyData) (vs:List V) (us:List Value),cL H ds vs -> B2 vs us -> ∃ as,ReadsAll s.heap us ds as
 | [],vs,us,h,r=>by
  unfold cL at h
  subst h
  cases r
  exact ⟨_,.nil⟩
 | d :: ds,vs,us,h,r=>by
  unfold cL at h
  obtain ⟨x,xs,rfl,h1,h2⟩ := h
  cases r with
  | cons r1 r2 =>
   obtain ⟨as,q1⟩ := Cj I d x _ h1 r1
   obtain ⟨bs,q2⟩ := fE I ds xs _ h2 r2
   exact ⟨_,.cons q1 q2⟩
end
end
section
variable {X:Cx} {k:Nat}
def iy (neg:Bool):R2:=fun x y H Q=>∃ d e:PyData,Rp H d x /\ Rp H e y /\ d.depth <= 60 /\ Q (.bl (if neg then !PyData.eqv d e else PyData.eqv d e)) H
theorem Ie (hr:Cb k X.A):G6 X (compareOp .Eq) (iy false):=by
 intro pins s σ H x y v u Q I rx ry h
 obtain ⟨d,e,h1,h2,hd,q⟩ := h
 obtain ⟨as,q1⟩ := Cj I d x v h1 rx
 obtain ⟨bs,q2⟩ := Cj I e y u h2 ry
 have hu:=hr.units
 exact PySem.SeqAt.compareEq_reads q1 q2 (Cw d x h1) (Cw e y h2) (by omega) ⟨.bl (PyData.eqv d e),H,I,rfl,q⟩
theorem X8 (hr:Cb k X.A):G6 X (compareOp .NotEq) (iy true):=by
 intro pins s σ H x y v u Q I rx ry h
 obtain ⟨d,e,h1,h2,hd,q⟩ := h
 obtain ⟨as,q1⟩ := Cj I d x v h1 rx
 obtain ⟨bs,q2⟩ := Cj I e y u h2 ry
 have hu:=hr.units
 exact PySem.SeqAt.compareNe_reads q1 q2 (Cw d x h1) (Cw e y h2) (by omega) ⟨.bl (!PyData.eqv d e),H,I,rfl,q⟩
end
theorem Tq {H:Hp}:∀ ns:List Int,cL H (ns.map PyData.int) (ns.map V.int)
 | []=>by unfold cL; rfl
 | n :: ns=>by
  show cL H (PyData.int n :: ns.map PyData.int) (V.int n :: ns.map V.int)
  unfold cL
  exact ⟨_,_,rfl,by unfold Rp; rfl,Tq ns⟩
theorem A6.new {H H':Hp} {p:Addr} {o:HO} (e:A6 H H') (h:H p = none):A6 H (upd H' p o):=fun b u q=>by
 rw [A8 (Aa q h)]
 exact e b u q
theorem A6.upd {H:Hp} {p:Addr} {o:HO} (h:H p = none):A6 H (upd H p o):=(A6.refl H).new h
theorem p8 {l : PySem.W.OpenLaw} {n k : Nat} {q : Program} {loose : List Str} {XP : (Str -> Option Value) -> Heap -> Prop} {YP : World -> Heap -> Prop} {d : DefRec} {K : Params -> PySem.W.Frag} {CX : World -> Vs} {sp : World -> Sp} {x : Str}
  (hn:l.most = some n) (QQ:n <= sizeLine) (TQ:d.params.defaults = []) (hr:Cb k callerA)
  (hY:∀ (w:World) (h:Heap),YP w h -> (K w.params).In h)
  (F:∀ (w:World) (mg:Str -> Option Value) (fa:Addr) (h:Heap),(K w.params).In h -> h.Ns mainGlobals mg -> mg d.name = some (.ref fa) ->
   ∃ fd:FuncData,(∀ (s:Shared) (u:Value),BindsTo s fd ⟨[u],[]⟩ [(x,u)]) /\
    ∀ base:Heap,(K w.params).In base -> base.Ns mainGlobals mg -> A9 l.prog w (K w.params) mg base (CX w) k fa fd [x] (sp w))
  (nL:∀ (w:World) (H:Hp) (a:Addr) (ns:List Int),ns.length <= n -> (∀ z ∈ ns,intBits z <= 2 ^ 20) -> ah H -> B5 (K w.params) H a (ns.map V.int) -> sp w [.ref a] H (fun v _=>v = .bl true) fun _ _ _=>False)
  (SY:∀ (w:World) (H:Hp) (s:Shared) (e:Value) (s':Shared),CX w [] H s (fun _ _ _=>False) e s' -> False) :
  PySem.W.WalkO q loose XP YP l.row.toRowW d [] (fun f vs=>PySem.call f vs):=by
 intro w s₀ s₁ mg mb G Y fa o pm cd doc dV kV ho hd oY hD hmg hg args vals as sR TR hrd oS QW
 obtain rfl:dV = .none:=PySem.W.Dflts.none hD TQ
 obtain rfl:kV = .none:=PySem.W.Dflts.noKw hD
 obtain ⟨a,vs,ns,rfl,rfl,TU,hints,hlen⟩ := Att.ou hn sR oS
 have big:∀ z ∈ ns,intBits z <= 2 ^ 20:=fun z hz=>by
  have l1:=(PySem.W.layW_cons TR).1
  have l2:=PySem.W.layableW_item l1 (.int z) (List.mem_map.mpr ⟨z,hz,rfl⟩)
  have l3:=(PySem.W.layableW_iff.mp l2).2.2
  simpa only [PySem.W.WData.weight,Builtin.Int.intBits] using l3
 have KX:=hY w _ Y
 obtain ⟨fd,hb,hF⟩ := F w mg fa _ KX G.T.g hmg
 refine PySem.W.enter_call (codeAny_mono (Ww KX G.T.g G.T.b G.T.builtins G.T.nolimit hg TU hints (Nat.le_trans hlen QQ) hr hF hb (fun H hO hS=>nL w H a ns hlen big hO hS) fun H e s'=>SY w H s₁ e s') fun r s' hq=>?_)
 obtain ⟨rfl,h2,h3,h4⟩ := hq
 exact ⟨.inl ⟨.bool true,.bool true,[],rfl,fun _=>rfl,.bool true,Att.ow l _,fun _=>⟨List.Pairwise.nil,fun _ hm=>(nomatch hm)⟩⟩,h2,h3,h4⟩
section
variable {X:Cx} {tg:Expr}
def ln (K:PySem.W.Frag):R2:=fun x y H Q=>∃ p xs i v,x = .ref p /\ y = .int i /\ (B5 K H p xs \/ Bw K H p xs) /\ G4 xs i = some v /\ Q v H
theorem Aw (K:PySem.W.Frag) (hK:X.K = K:=by rfl):gm X (ln K):=by
 subst hK
 intro value slice pins s σ H x y v u Q I rx ry h hs
 obtain ⟨p,xs,i,z,e1,e2,h | h,ea,q⟩ := h
 ·exact Yy value slice pins s σ H x y v u Q I rx ry ⟨p,xs,i,z,e1,e2,h,ea,q⟩ hs
 ·exact bf value slice pins s σ H x y v u Q I rx ry ⟨p,xs,i,z,e1,e2,h,ea,q⟩ hs
def lr (K:PySem.W.Frag):List V -> Hp -> VK -> Prop:=fun xs H Q=>∃ p ys,xs = [.ref p] /\ (B5 K H p ys \/ Bw K H p ys) /\ Q (.int ys.length) H
theorem C6 (K:PySem.W.Frag) (hK:X.K = K:=by rfl):D2 X (.builtin "len") (lr K):=by
 subst hK
 exact O0
theorem Mc (K:PySem.W.Frag) (hK:X.K = K:=by rfl):D2 X (.builtin "isinstance") (iz K):=by
 subst hK
 exact Vz
theorem Og (K:PySem.W.Frag) (hK:X.K = K:=by rfl):G6 X (compareOp .In) (kg K false):=by
 subst hK
 exact V3
theorem V6 (K:PySem.W.Frag) (hK:X.K = K:=by rfl):G6 X (compareOp .NotIn) (kg K true):=by
 subst hK
 exact Oh
theorem Fs (K:PySem.W.Frag) (hK:X.K = K:=by rfl):kx X (j8 K):=by
 subst hK
 exact Zl
theorem Hd (K : PySem.W.Frag) {es : List Expr} {kk : Nat} {t : Zq} {n : Nat} {pos : Pos} (hc : X.calm = true) (h : gr X es t) (hK : X.K = K := by rfl)
  (hn:(assignEach es X.env).length = n:=by rfl) (eP:(assignEach es X.env).findIdx? (·.1) = none:=by rfl):PG X (.Tuple es kk pos) (ay K n t):=by
 subst hK
 exact dq hc h hn eP
def mv (K:PySem.W.Frag) (tl:TE):TI:=fun σ H R=>tl σ H fun x H1=>∃ a,x = .ref a /\ (((∃ xs,B5 K H1 a xs) /\ R (gf K a) H1) \/ ((∃ xs,Bw K H1 a xs) /\ R (gh K a) H1))
theorem Dc {l:Expr} {tl:TE} (hl:PE X l tl):PI X tg l (mv X.K tl):=by
 intro pins s σ H R I h
 refine Bv (hl pins s σ H _ I h) fun v s1 dG=>?_
 obtain ⟨x,H1,I1,r1,q1⟩ := dG
 obtain ⟨a,e,q1⟩ := q1
 subst e
 cases r1
 rcases q1 with ⟨⟨xs,hq⟩,q⟩ | ⟨⟨xs,hq⟩,q⟩
 ·obtain ⟨aU,rv,p,hz⟩ := I1.list hq
  refine wpAny_pyIter_list p.isList ?_
  refine ⟨s1.heap.objs.size,[s1.heap.objs.size],_,_,H1,rfl,I1.kept (t':=s1.toks) fun b o e=>Heap.get?_push_of_some _ e,Vo a _,⟨_,Heap.get?_push_size _ rfl,rfl,rfl⟩,fun b hb=>?_,q⟩
  have e:b = s1.heap.objs.size:=by simpa using hb
  subst e
  exact I1.mI (Nat.le_refl _) (I1.aS.fresh (Nat.le_refl _))
 ·obtain ⟨aU,rv,p,hz⟩ := I1.tuple hq
  refine wpAny_pyIter_tuple (show s1.heap.IsTuple a aU.toArray from p) ?_
  refine ⟨s1.heap.objs.size,[s1.heap.objs.size],_,_,H1,rfl,I1.kept (t':=s1.toks) fun b o e=>Heap.get?_push_of_some _ e,T1 a _,⟨_,Heap.get?_push_size _ rfl,rfl,rfl⟩,fun b hb=>?_,q⟩
  have e:b = s1.heap.objs.size:=by simpa using hb
  subst e
  exact I1.mI (Nat.le_refl _) (I1.aS.fresh (Nat.le_refl _))
end
theorem Ez {fr : List Nat} {te : TE} {σ : St} {D : Addr} {H1 : Hp} {Q : Hp -> Prop} {lo : Int} {cnt : Nat} (Pv : Nat -> List V -> Hp -> Prop) (h0 : Pv 0 [] (upd H1 D (.lst [])))
  (hs:∀ i ys H,i < cnt -> Pv i ys H -> ∀ Qe:VK,(∀ y H5,H5 D = some (.lst ys) -> ys.length < sizeLine -> Pv (i + 1) (ys ++ [y]) (upd H5 D (.lst (ys ++ [y]))) -> Qe y H5) -> te (some (.int (lo + i)) :: Cz fr σ) H Qe)
  (hd:∀ ys H,Pv cnt ys H -> Q H):Di 1 fr (Yh lo cnt) (Gq 0) P8 te σ D H1 Q:=by
 refine ⟨fun i m ys H=>m = cnt - i /\ i <= cnt /\ Pv i ys H,⟨cnt,by simp,Nat.zero_le _,h0⟩,?_⟩
 rintro i m ys H' ⟨rfl,hi,p⟩
 by_cases dE:i < cnt
 ·refine .inr ⟨dE,fun x H2 y=>?_⟩
  obtain ⟨e,y⟩ := y
  subst e y
  refine ⟨⟨[some (.int (lo + i))],rfl,rfl⟩,?_⟩
  simp only [P8,↓reduceIte]
  exact hs i ys _ dE p _ fun y H5 hD hz pv=>⟨hD,hz,cnt - (i + 1),by omega,rfl,dE,pv⟩
 ·have e:i = cnt:=by omega
  subst e
  exact .inl ⟨Nat.le_refl _,hd ys H' p⟩
theorem De {K : PySem.W.Frag} {a : Addr} {xs : List V} {fr : List Nat} {te : TE} {σ : St} {D : Addr} {H1 : Hp} {Q : Hp -> Prop} (Pv : Nat -> List V -> Hp -> Prop) (h0 : Pv 0 [] (upd H1 D (.lst [])))
  (hl:∀ i ys H,i <= xs.length -> Pv i ys H -> B5 K H a xs)
  (hs:∀ i x ys H,xs[i]? = some x -> Pv i ys H -> ∀ Qe:VK,(∀ y H5,H5 D = some (.lst ys) -> ys.length < sizeLine -> Pv (i + 1) (ys ++ [y]) (upd H5 D (.lst (ys ++ [y]))) -> Qe y H5) -> te (some x :: Cz fr σ) H Qe)
  (hd:∀ ys H,Pv xs.length ys H -> Q H):Di 1 fr (gf K a) (Gq 0) P8 te σ D H1 Q:=by
 refine ⟨fun i m ys H=>m = xs.length - i /\ i <= xs.length /\ Pv i ys H,⟨xs.length,by simp,Nat.zero_le _,h0⟩,?_⟩
 rintro i m ys H' ⟨rfl,hi,p⟩
 have q:=hl i ys H' hi p
 by_cases dE:i < xs.length
 ·refine .inr ⟨⟨xs,xs[i],q,by simp [dE]⟩,fun x H2 y=>?_⟩
  obtain ⟨e,y⟩ := y
  subst e
  refine ⟨⟨[some x],rfl,rfl⟩,?_⟩
  simp only [P8,↓reduceIte]
  exact hs i x ys _ (y xs q) p _ fun y H5 hD hz pv=>⟨hD,hz,xs.length - (i + 1),by omega,rfl,dE,pv⟩
 ·have e:i = xs.length:=by omega
  subst e
  exact .inl ⟨⟨xs,q,Nat.le_refl _⟩,hd ys H' p⟩
theorem K5 {K : PySem.W.Frag} {a : Addr} {xs : List V} {fr : List Nat} {te : TE} {σ : St} {D : Addr} {H1 : Hp} {Q : Hp -> Prop} (Pv : Nat -> List V -> Hp -> Prop) (h0 : Pv 0 [] (upd H1 D (.lst [])))
  (hl:∀ i ys H,i <= xs.length -> Pv i ys H -> Bw K H a xs)
  (hs:∀ i x ys H,xs[i]? = some x -> Pv i ys H -> ∀ Qe:VK,(∀ y H5,H5 D = some (.lst ys) -> ys.length < sizeLine -> Pv (i + 1) (ys ++ [y]) (upd H5 D (.lst (ys ++ [y]))) -> Qe y H5) -> te (some x :: Cz fr σ) H Qe)
  (hd:∀ ys H,Pv xs.length ys H -> Q H):Di 1 fr (gh K a) (Gq 0) P8 te σ D H1 Q:=by
 refine ⟨fun i m ys H=>m = xs.length - i /\ i <= xs.length /\ Pv i ys H,⟨xs.length,by simp,Nat.zero_le _,h0⟩,?_⟩
 rintro i m ys H' ⟨rfl,hi,p⟩
 have q:=hl i ys H' hi p
 by_cases dE:i < xs.length
 ·refine .inr ⟨⟨xs,xs[i],q,by simp [dE]⟩,fun x H2 y=>?_⟩
  obtain ⟨e,y⟩ := y
  subst e
  refine ⟨⟨[some x],rfl,rfl⟩,?_⟩
  simp only [P8,↓reduceIte]
  exact hs i x ys _ (y xs q) p _ fun y H5 hD hz pv=>⟨hD,hz,xs.length - (i + 1),by omega,rfl,dE,pv⟩
 ·have e:i = xs.length:=by omega
  subst e
  exact .inl ⟨⟨xs,q,Nat.le_refl _⟩,hd ys H' p⟩
def Ix (ns:List Int) (k:Int):Int:=(ns[k.toNat]?).getD 0
theorem Yj {ns:List Int} {k:Int} (h0:0 <= k) (h:k < ns.length):G4 (ns.map V.int) k = some (.int (Ix ns k)):=by
 obtain ⟨j,rfl⟩ : ∃ j:Nat,k = j:=⟨k.toNat,by omega⟩
 have hj:j < ns.length:=by omega
 refine Jr ?_
 unfold Ix
 rw [List.getElem?_map,Int.toNat_natCast,List.getElem?_eq_getElem hj]
 rfl
theorem Uc {ns:List Int} {k:Int} (h0:0 <= k) (h:¬ k < ns.length):Ix ns k = 0:=by
 unfold Ix
 rw [List.getElem?_eq_none (by omega)]
 rfl
theorem R9 {ns:List Int} {k:Int} (hb:∀ z ∈ ns,intBits z <= 2 ^ 20):intBits (Ix ns k) <= 2 ^ 20:=by
 unfold Ix
 cases e:ns[k.toNat]? with
 | none=>show intBits 0 <= 2 ^ 20; decide
 | some n=>exact hb n (List.mem_of_getElem? e)
theorem Cm {c:Bool} {A B:Prop} (hc:c = true) (h:A):if c = true then A else B:=by rw [if_pos hc]; exact h
theorem Az {c:Bool} {A B:Prop} (hc:c = false) (h:B):if c = true then A else B:=by rw [if_neg (by rw [hc]; exact Bool.false_ne_true)]; exact h
theorem Bi {xs:List V} (h:xs.length <= 1000:=by simp):xs.length <= sizeLine:=Nat.le_of_lt (B3 h)
theorem Tt {n:Nat} (h:n <= 1000):n <= sizeLine:=Nat.le_of_lt (B3 h)
def dT (ws:List Int):PyData := .tuple (ws.map PyData.int)
def dP (d e:PyData):PyData := .tuple [d,e]
def vO:Option Int -> V
 | none=>.cZ
 | some i=>.int i
theorem S1 {H:Hp} (i:Int):Rp H (.int i) (.int i):=by unfold Rp; rfl
theorem Xp {H:Hp}:Rp H .none .cZ:=by unfold Rp; rfl
theorem j9 {H:Hp} {t:Addr} {ws:List Int} (h:H t = some (.tup (ws.map V.int))):Rp H (dT ws) (.ref t):=by
 unfold dT Rp
 exact ⟨t,_,rfl,h,Tq ws⟩
theorem Zz {H:Hp} {p:Addr} {d e:PyData} {x y:V} (h:H p = some (.tup [x,y])) (hd:Rp H d x) (he:Rp H e y):Rp H (dP d e) (.ref p):=by
 unfold dP Rp
 refine ⟨p,_,rfl,h,?_⟩
 unfold cL
 refine ⟨x,_,rfl,hd,?_⟩
 unfold cL
 refine ⟨y,_,rfl,he,?_⟩
 unfold cL
 rfl
theorem Wa (d e:PyData):(dP d e).depth = max d.depth e.depth + 1:=by
 show max d.depth (max e.depth 0) + 1 = _
 rw [Nat.max_zero]
theorem Fj:∀ xs ys:List Int,PyData.eqvAll (xs.map PyData.int) (ys.map PyData.int) = decide (xs = ys)
 | [],[]=>rfl
 | x :: xs,y :: ys=>by
  show (PyData.eqv (.int x) (.int y) && PyData.eqvAll (xs.map PyData.int) (ys.map PyData.int)) = _
  rw [Fj xs ys]
  show ((x == y) && decide (xs = ys)) = _
  by_cases h1:x = y <;> by_cases h2:xs = ys <;> simp [h1,h2]
 | [],_ :: _=>rfl
 | _ :: _,[]=>rfl
theorem aw (xs ys:List Int):PyData.eqv (dT xs) (dT ys) = decide (xs = ys):=Fj xs ys
theorem av (a b c d:PyData):PyData.eqv (dP a b) (dP c d) = (PyData.eqv a c && PyData.eqv b d):=by
 show (PyData.eqv a c && (PyData.eqv b d && true)) = _
 rw [Bool.and_true]
section
variable {X:Cx} {pins:List (Addr × Obj)} {σ:St} {H:Hp} {s:Shared} {h':Heap}
theorem Ai.lI {ch : List Addr} {T : Addr} {o : HO} {t' : Nat} (I : Ai X pins σ H s) (iL : ∀ b ∈ ch, Je X pins H b) (k : ∀ b ob, b ∉ ch -> s.heap.get? b = some ob -> h'.get? b = some ob)
  (hT:s.heap.objs.size <= T) (new:Bl X.prog X.w (upd H T o) h' T o):Ai X pins σ (upd H T o) { s with heap:=h',toks:=t' }:=by
 have hn:H T = none:=I.aS.fresh hT
 have off:∀ b u,H b = some u -> b ∉ ch:=fun b u e hb=>by
  have z:=(iL b hb).1
  rw [e] at z
  cases z
 refine I.call (g':=s.gens) (d':=s.drawn) (t':=t') (ch:=ch) ⟨fun b ob e _ _ hc=>k b ob hc e,fun b ob e _ _ hc=>⟨ob.slots,k b ob hc e⟩,fun b ob e n hc=>?_,fun b ob e hc=>⟨ob,k b ob hc e⟩,fun b xs e=>?_,fun b ob u e=>?_,fun b ps e=>⟨#[],?_⟩⟩ (fun b u e=>?_) I.bare
  (fun b hb=>⟨(iL b hb).2.2.2.1,(iL b hb).2.1,(iL b hb).2.2.2.2.1,(iL b hb).2.2.2.2.2⟩)
 ·rw [A8 (Nat.ne_of_lt (Nat.lt_of_lt_of_le (Heap.lt_size e) hT))]
  exact n
 ·rw [A8 (Aa e hn)]
  exact e
 ·rw [A8 (Aa e hn)]
  exact e
 ·rw [A8 (Aa e hn),e]
  simp
 ·by_cases hb:b = T
  ·subst hb
   rw [A1] at e
   cases e
   exact new
  ·rw [A8 hb] at e
   refine (I.aS b u e).gQ (fun c v hc q=>k c v ?_ q) (fun c q=>?_) fun c xs q=>?_
   ·rcases hc with rfl | hc
    ·exact off _ _ e
    ·exact off _ _ hc
   ·rw [A8 (Aa q hn)]
    exact q
   ·rw [A8 (Aa q hn)]
    exact q
theorem Ai.lJ {ch:List Addr} {t':Nat} (I:Ai X pins σ H s) (iL:∀ b ∈ ch,Je X pins H b) (k:∀ b ob,b ∉ ch -> s.heap.get? b = some ob -> h'.get? b = some ob):Ai X pins σ H { s with heap:=h',toks:=t' }:=by
 have off:∀ b u,H b = some u -> b ∉ ch:=fun b u e hb=>by
  have z:=(iL b hb).1
  rw [e] at z
  cases z
 refine I.call (g':=s.gens) (d':=s.drawn) (t':=t') (ch:=ch) ⟨fun b ob e _ _ hc=>k b ob hc e,fun b ob e _ _ hc=>⟨ob.slots,k b ob hc e⟩,fun b ob e n hc=>n,fun b ob e hc=>⟨ob,k b ob hc e⟩,fun b xs e=>e,fun b ob u e=>e,fun b ps e=>⟨#[],by rw [e]; simp⟩⟩ (fun b u e=>?_) I.bare
  (fun b hb=>⟨(iL b hb).2.2.2.1,(iL b hb).2.1,(iL b hb).2.2.2.2.1,(iL b hb).2.2.2.2.2⟩)
 refine (I.aS b u e).gQ (fun c v hc q=>k c v ?_ q) (fun c q=>q) fun c xs q=>q
 rcases hc with rfl | hc
 ·exact off _ _ e
 ·exact off _ _ hc
end
section
variable {X:Cx}
end
section
variable {X:Cx}
end
section
variable {X:Cx}
theorem Ua (hc:X.calm = true):D2 X (.builtin "min") (fun xs H Q=>∃ (p:Addr) (ns:List Int),xs = [.ref p] /\ B5 X.K H p (ns.map V.int) /\ 0 < ns.length /\ ∀ m:Int,m ∈ ns -> (∀ a ∈ ns,m <= a) -> Q (.int m) H):=by
 intro pins s σ H vs us Q I r q
 obtain ⟨p,ns,rfl,hq,eZ,q⟩ := q
 obtain ⟨u,rfl,rx⟩ := Ff r
 cases rx
 obtain ⟨aU,rv,pl,hz⟩ := I.list hq
 have hi:=Kk rv
 obtain ⟨ys,ey⟩ := hi.allInts.items
 have sr:ns = ys.toList.map (·.1):=by
  have e1:=hi.numsOf
  have e2:=nums_intItems ys
  rw [<- ey] at e2
  exact e1.symm.trans e2
 have hsz:0 < ys.size:=by
  rw [sr,List.length_map,Array.length_toList] at eZ
  exact eZ
 have hl:=pl.isList
 rw [ey] at hl
 refine min_intList (I.ok.hd hc) hl hsz fun v g' tk hv hk=>?_
 obtain ⟨t,rfl⟩ := intItems_at hv
 obtain ⟨b1,b2⟩ := argBest_lt (numAt ys) (ys.size - 1)
 refine ⟨.int _,H,I.kept hk,⟨t,rfl⟩,q _ ?_ fun a ha=>?_⟩
 ·rw [sr,numAt_eq]
  exact getD_mem (by rw [List.length_map,Array.length_toList]; omega)
 ·rw [sr] at ha
  obtain ⟨j,hj,rfl⟩ := mem_getD ha
  rw [List.length_map,Array.length_toList] at hj
  rw [<- numAt_eq]
  exact b2 j (by omega)
end
section
variable {X:Cx}
end
structure Pf (K:PySem.W.Frag) (x qual:Str) (st:Stmt) (f:Addr) (fd:FuncData):Prop where
 ex:∃ (oc:Value) (od:Option Addr) (dV kV doc pm:Value) (an:Option Addr) (dB ct:Value) (lG:Array (Option Value)),
  fd = PySem.W.fnOf x qual (Ag st) (Ac st) (A4 st) dV kV doc pm an dB ct /\ K.lookup f = some ⟨oc,od,.func fd,lG⟩ /\ PySem.W.codeIn K dB qual = true
section
variable {P:Program} {w:World} {K:PySem.W.Frag} {mg:Str -> Option Value} {base:Heap}
end
section
variable {X:Cx} {a b c:Expr} {rest:List Expr} {ta tb:TE} {tA tX:TT} {t u:TS} {pos:Pos}
def jm (ta tb:TE):TE:=fun σ H Q=>ta σ H fun x H1=>∃ c d:Bool,x = .bl c /\ (c = true -> ∀ Q':VK,Q' (.bl d) H1 -> tb σ H1 Q') /\ Q (.bl (c && d)) H1
def mh (ta tb:TE):TE:=fun σ H Q=>ta σ H fun x H1=>∃ c d:Bool,x = .bl c /\ (c = false -> ∀ Q':VK,Q' (.bl d) H1 -> tb σ H1 Q') /\ Q (.bl (c || d)) H1
theorem Hc (ha:PE X a ta) (hb:PE X (.BoolOp .And (b :: rest) pos) tb):PE X (.BoolOp .And (a :: b :: rest) pos) (jm ta tb):=by
 intro pins s σ H Q I h
 refine BoolOp_and (Bv (ha pins s σ H _ I h) fun v s1 dG=>?_)
 obtain ⟨x,H1,I1,r1,q1⟩ := dG
 obtain ⟨c,d,rfl,q0,q1⟩ := q1
 cases r1
 refine wpAny_truthy_bool ?_
 cases c with
 | true=>exact hb pins s1 σ H1 Q I1 (q0 rfl Q q1)
 | false=>exact ⟨.bl false,H1,I1,rfl,q1⟩
theorem dm (ha:PE X a ta) (hb:PE X (.BoolOp .Or (b :: rest) pos) tb):PE X (.BoolOp .Or (a :: b :: rest) pos) (mh ta tb):=by
 intro pins s σ H Q I h
 refine BoolOp_or (Bv (ha pins s σ H _ I h) fun v s1 dG=>?_)
 obtain ⟨x,H1,I1,r1,q1⟩ := dG
 obtain ⟨c,d,rfl,q0,q1⟩ := q1
 cases r1
 refine wpAny_truthy_bool ?_
 cases c with
 | false=>exact hb pins s1 σ H1 Q I1 (q0 rfl Q q1)
 | true=>exact ⟨.bl true,H1,I1,rfl,q1⟩
def jk (t u:TT):TT:=fun σ H Q=>t σ H fun c H1=>∃ d:Bool,(c = true -> ∀ Q':Bool -> Hp -> Prop,Q' d H1 -> u σ H1 Q') /\ Q (c && d) H1
def mf (t u:TT):TT:=fun σ H Q=>t σ H fun c H1=>∃ d:Bool,(c = false -> ∀ Q':Bool -> Hp -> Prop,Q' d H1 -> u σ H1 Q') /\ Q (c || d) H1
theorem Hg (ha:PT X a tA) (hb:PW X (.BoolOp .And (b :: rest) pos) tX):PW X (.BoolOp .And (a :: b :: rest) pos) (jk tA tX):=by
 intro wh pins s σ H Q I h
 refine isTrue_and (Bv (ha pins s σ H _ I h) fun c s1 dG=>?_)
 obtain ⟨H1,I1,d,q0,q1⟩ := dG
 cases c with
 | true=>exact hb wh pins s1 σ H1 Q I1 (q0 rfl Q q1)
 | false=>exact ⟨H1,I1,q1⟩
theorem Fp (ha:PT X a tA) (hb:PW X (.BoolOp .Or (b :: rest) pos) tX):PW X (.BoolOp .Or (a :: b :: rest) pos) (mf tA tX):=by
 intro wh pins s σ H Q I h
 refine isTrue_or (Bv (ha pins s σ H _ I h) fun c s1 dG=>?_)
 obtain ⟨H1,I1,d,q0,q1⟩ := dG
 cases c with
 | true=>exact ⟨H1,I1,q1⟩
 | false=>exact hb wh pins s1 σ H1 Q I1 (q0 rfl Q q1)
theorem SP.mono {pins:List (Addr × Obj)} {D D':Hq} {f:Flow} {s':Shared} (h:SP X pins D f s') (hn:∀ σ H,D.nx σ H -> D'.nx σ H) (hr:∀ v H,D.rt v H -> D'.rt v H) (hb:∀ σ H,D.bk σ H -> D'.bk σ H) (hc:∀ σ H,D.ct σ H -> D'.ct σ H):SP X pins D' f s':=by
 cases f with
 | next=>obtain ⟨σ',H',I,q⟩ := h; exact ⟨σ',H',I,hn _ _ q⟩
 | brk=>obtain ⟨σ',H',I,q⟩ := h; exact ⟨σ',H',I,hb _ _ q⟩
 | cont=>obtain ⟨σ',H',I,q⟩ := h; exact ⟨σ',H',I,hc _ _ q⟩
 | ret v=>obtain ⟨x,σ',H',I,r,q⟩ := h; exact ⟨x,σ',H',I,r,hr _ _ q⟩
def m8 (c:TT) (t u:TS):TS:=fun D σ H=>c σ H fun b H1=>∃ N:St -> Hp -> Prop,(b = true -> t { D with nx:=N } σ H1) /\ (b = false -> u { D with nx:=N } σ H1) /\ ∀ σ' H',N σ' H' -> D.nx σ' H'
theorem Df {c:Expr} {a b:List Stmt} {tc:TT} (hc:PT X c tc) (ha:M5 X a t) (hb:M5 X b u):PS X (.If c a b pos) (m8 tc t u):=by
 intro pins s σ H D I h
 refine wpAny_If (Bv (hc pins s σ H _ I h) fun d s1 dG=>?_)
 obtain ⟨H1,I1,N,q1,q2,q3⟩ := dG
 cases d with
 | true=>exact Bv (ha pins s1 σ H1 _ I1 (q1 rfl)) fun f s2 q=>q.mono q3 (fun _ _ z=>z) (fun _ _ z=>z) fun _ _ z=>z
 | false=>exact Bv (hb pins s1 σ H1 _ I1 (q2 rfl)) fun f s2 q=>q.mono q3 (fun _ _ z=>z) (fun _ _ z=>z) fun _ _ z=>z
end
section
variable {P:Program} {w:World} {A:Around} {E:Value -> Shared -> Prop} {s:Shared}
theorem Rs {I T : Addr} {k : Nat} {vs : Array Value} {v : Value} {Q : Value -> Shared -> Prop} (hI : s.heap.IsTupleIter I T k) (hT : s.heap.IsTuple T vs) (hv : vs[k]? = some v)
  (q:∀ h',h'.IsTupleIter I T (k + 1) -> Heap.SameBut I s.heap h' -> Q v { s with heap:=h' }):wpAny (model P w) A (Builtin.SmallTypes.nextOf (.ref I)) Q E s:=by
 obtain ⟨oI,eI,cI,dI⟩ := id hI
 obtain ⟨oT,eT,_,nT,TV⟩ := hT
 unfold Builtin.SmallTypes.nextOf
 refine wpAny_bind (wpAny_callSpecial?_slot (name:=Str.ofString "__next__") hI.typeIs F.slot_tuple_iterator_next (wpAny_call_entry F.slot_tuple_iterator_next hI.typeIs F.entry_tuple_iterator_next ?_ (F.args_tuple_iterator_next_1 _)))
 show wpAny _ _ (field (.ref I) 0 >>= _) _ _ s
 refine wpAny_bind (wpAny_field eI dI (x := .ref T) rfl ?_)
 show wpAny _ _ (if (Value.ref T == Value.none) = true then _ else _) _ _ s
 rw [if_neg (show ¬ ((Value.ref T == Value.none) = true) from Bool.false_ne_true)]
 show wpAny _ _ (field (.ref I) 1 >>= _) _ _ s
 refine wpAny_bind (wpAny_field eI dI (x := .int k 0) rfl ?_)
 show wpAny _ _ (seqItems? (.ref T) >>= _) _ _ s
 refine wpAny_bind (wpAny_seqItems eT TV ?_)
 simp only [Int.toNat_natCast,hv]
 refine wpAny_bind (wpAny_setField eI dI (by simp) (wpAny_pure ⟨v,rfl,wpAny_pure (q _ ⟨_,Heap.get?_update_self _ eI (Obj.isFreed_of_fields (Obj.data_mapFields dI _)),(Obj.cls_mapFields ..).trans cI,?_⟩ (Heap.SameBut.update ..))⟩))
 rw [Obj.data_mapFields dI]
 simp [rawInt]
theorem Uz {I T : Addr} {k : Nat} {vs : Array Value} {Q : Value -> Shared -> Prop} (no : A.handled = none) (hI : s.heap.IsTupleIter I T k) (hT : s.heap.IsTuple T vs) (hv : vs[k]? = none)
  (q:∀ h' e,Heap.ExtBut I s.heap h' -> (∃ o,h'.get? e = some o /\ o.cls = .type "StopIteration") -> E (.ref e) { s with heap:=h' }):wpAny (model P w) A (Builtin.SmallTypes.nextOf (.ref I)) Q E s:=by
 obtain ⟨oI,eI,cI,dI⟩ := id hI
 obtain ⟨oT,eT,_,nT,TV⟩ := hT
 unfold Builtin.SmallTypes.nextOf
 refine wpAny_bind (wpAny_callSpecial?_slot (name:=Str.ofString "__next__") hI.typeIs F.slot_tuple_iterator_next (wpAny_call_entry F.slot_tuple_iterator_next hI.typeIs F.entry_tuple_iterator_next ?_ (F.args_tuple_iterator_next_1 _)))
 show wpAny _ _ (field (.ref I) 0 >>= _) _ _ s
 refine wpAny_bind (wpAny_field eI dI (x := .ref T) rfl ?_)
 show wpAny _ _ (if (Value.ref T == Value.none) = true then _ else _) _ _ s
 rw [if_neg (show ¬ ((Value.ref T == Value.none) = true) from Bool.false_ne_true)]
 show wpAny _ _ (field (.ref I) 1 >>= _) _ _ s
 refine wpAny_bind (wpAny_field eI dI (x := .int k 0) rfl ?_)
 show wpAny _ _ (seqItems? (.ref T) >>= _) _ _ s
 refine wpAny_bind (wpAny_seqItems eT TV ?_)
 simp only [Int.toNat_natCast,hv]
 refine wpAny_bind (wpAny_rule (wpAny_bind (wpAny_setField eI dI (by simp) ?_)))
 show wpAny _ _ (newExc (.type "StopIteration") [] >>= fun _=>_) _ _ _
 refine wpAny_bind ?_
 simp only [newExc,newTuple]
 refine wpAny_bind (wpAny_newObj_type (wpAny_bind (m:=firstArgMember _ _) (wpAny_of_eq (a:=Value.none) (by first | rfl | (simp only [firstArgMember]; rfl)) (wpAny_newObj_type ?_ (by size_fits)))) (by size_fits))
 simp only [raiseNew]
 refine wpAny_bind (wpAny_handled ?_)
 first | rw [show A.in1.handled = none from no] | rw [no]
 refine wpAny_bind (wpAny_pure (wpAny_throw (q _ _ (((Heap.SameBut.update ..).extBut.push _).push _) ⟨_,Heap.get?_push_size _ rfl,rfl⟩)))
end
theorem ar {P:Program} {w:World} {A:Around} (no:A.handled = none) (I T:Addr) (ne:T ≠ I) (vs:Array Value):Draws P w A I [I,T] vs.size (fun i v=>vs[i]? = some v) (fun i h=>h.IsTupleIter I T i /\ h.IsTuple T vs) where
 live:=fun _ _ st=>let ⟨o,e,_⟩ := st.1; ⟨o,e⟩
 frame:=fun _ _ _ st k=>⟨st.1.at fun o e=>k I (by simp) o e,let ⟨o,e,r⟩ := st.2; ⟨o,k T (by simp) o e,r⟩⟩
 item:=fun i s Q E hi st q=>Rs st.1 st.2 (v:=vs[i]) (by simp [hi]) fun h' oq sb=>q _ h' s.toks (by simp [hi]) ⟨oq,st.2.extBut sb.extBut ne⟩ sb
 done:=fun s Q E st q=>Uz no st.1 st.2 (by simp) q
def Gm:Bool -> Heap -> Addr -> Addr -> Nat -> Prop
 | true,h,I,T,i=>h.IsTupleIter I T i
 | false,h,I,T,i=>h.IsListIter I T i
def Vu:Bool -> Heap -> Addr -> Array Value -> Prop
 | true,h,T,vs=>h.IsTuple T vs
 | false,h,T,vs=>h.IsList T vs
def Yx:Bool -> String
 | true=>"tuple_iterator"
 | false=>"list_iterator"
def Sq:Bool -> PySem.W.Frag -> Hp -> Addr -> List V -> Prop
 | true,K,H,a,xs=>Bw K H a xs
 | false,K,H,a,xs=>B5 K H a xs
theorem Px {P:Program} {w:World} {A:Around} (no:A.handled = none) (b:Bool) (I T:Addr) (ne:T ≠ I) (vs:Array Value):Draws P w A I [I,T] vs.size (fun i v=>vs[i]? = some v) (fun i h=>Gm b h I T i /\ Vu b h T vs):=by
 cases b
 ·exact Draws.list no I T ne vs
 ·exact ar no I T ne vs
theorem Gm.data {b:Bool} {h:Heap} {I T:Addr} {i:Nat} (x:Gm b h I T i):∃ o,h.get? I = some o /\ o.cls = .type (Yx b) /\ o.data = .fields #[.ref T,.int i 0]:=by cases b <;> exact x
theorem Gm.of {b:Bool} {h:Heap} {I T:Addr} {i:Nat} (x:∃ o,h.get? I = some o /\ o.cls = .type (Yx b) /\ o.data = .fields #[.ref T,.int i 0]):Gm b h I T i:=by cases b <;> exact x
theorem Gm.at' {b:Bool} {h h':Heap} {I T:Addr} {i:Nat} (x:Gm b h I T i) (k:∀ o,h.get? I = some o -> h'.get? I = some o):Gm b h' I T i:=by
 obtain ⟨o,e,r⟩ := x.data
 exact .of ⟨o,k _ e,r⟩
theorem Vu.lt {b:Bool} {h:Heap} {T:Addr} {vs:Array Value} (x:Vu b h T vs):T < h.objs.size:=by
 cases b <;> exact let ⟨_,e,_⟩ := x; Heap.lt_size e
theorem Gm.lt {b:Bool} {h:Heap} {I T:Addr} {i:Nat} (x:Gm b h I T i):I < h.objs.size:=by
 obtain ⟨_,e,_⟩ := x.data
 exact Heap.lt_size e
theorem Gm.ne {b c:Bool} {h:Heap} {I T:Addr} {i:Nat} {vs:Array Value} (x:Gm b h I T i) (y:Vu c h T vs):T ≠ I:=by
 rintro rfl
 obtain ⟨o,e,k,_⟩ := x.data
 cases c <;> (obtain ⟨o',e',k',_⟩ := y; rw [e] at e'; cases e'; rw [k] at k'; cases b <;> simp [Yx] at k')
section
variable {X:Cx} {pins:List (Addr × Obj)} {σ:St} {H:Hp} {s:Shared}
theorem Ai.sq {b:Bool} {a:Addr} {xs:List V} (I:Ai X pins σ H s) (q:Sq b X.K H a xs):∃ us,B2 xs us /\ Vu b s.heap a us.toArray:=by
 cases b
 ·obtain ⟨us,r,p,_⟩ := I.list q
  exact ⟨us,r,p.isList⟩
 ·obtain ⟨us,r,p,_⟩ := I.tuple q
  exact ⟨us,r,p⟩
theorem Ai.wg {b:Bool} {a:Addr} {xs ys:List V} (I:Ai X pins σ H s) (q:Sq b X.K H a xs) (r:Sq b X.K H a ys):xs = ys:=by
 cases b
 ·exact I.lF q r
 ·exact I.jR q r
end
open AutoSeq1 (wpAny_loadPart')
section
variable {P:Program} {w:World} {A:Around} {E:Value -> Shared -> Prop} {s:Shared}
abbrev kj (b1:Bool) (h:Heap) (l1:Addr):Heap:=h.push { cls := .type (Yx b1),data := .fields #[.ref l1,.int 0 0] }
end
open AutoSeq1 (wpAny_loadPart')
section
variable {P:Program} {w:World} {A:Around} {E:Value -> Shared -> Prop} {s:Shared}
end
section
variable {X:Cx}
end
def ac (K:PySem.W.Frag) (b:Bool) (l:Addr):It :=
 ⟨fun i H=>∃ xs x,Sq b K H l xs /\ xs[i]? = some x,
  fun i H v H'=>∃ T x,v = .ref T /\ H T = none /\ H' = upd H T (.tup [.int i,x]) /\ ∀ xs,Sq b K H l xs -> xs[i]? = some x,
  fun i H=>∃ xs,Sq b K H l xs /\ xs.length = i⟩
theorem Sy {P : Program} {w : World} {K : PySem.W.Frag} {elts : List Expr} {kk : Nat} {pos : Pos} {b : Bool} {e it l : Addr} (eZ : e ≠ it) (hel : e ≠ l) :
  Pk P w K (.Tuple elts kk pos) (ac K b l) [e,it] e (fun i h=>(∃ old,IsEnum h e it i old) /\ Gm b h it l i) where
 mem:=List.mem_cons_self
 obj:=fun i h ⟨⟨old,he⟩,h1⟩ c hc=>by
  obtain ⟨o1,e1,c1,d1⟩ := h1.data
  simp only [List.mem_cons,List.not_mem_nil,or_false] at hc
  rcases hc with rfl | rfl
  ·exact ⟨_,he,fun v q=>by cases q⟩
  ·exact ⟨_,e1,fun v q=>by rw [d1] at q; cases q⟩
 keep:=fun i h h' ⟨⟨old,he⟩,h1⟩ hk=>⟨⟨old,hk e (by simp) _ he⟩,h1.at' fun o q=>hk it (by simp) o q⟩
 item:=by
  intro X hP hw hK hc i pins s σ H E I GQ ⟨⟨old,he⟩,h1⟩ ⟨xs,x,q1,ex⟩
  subst hP hw hK
  obtain ⟨oy,r1,p1⟩ := I.sq q1
  obtain ⟨u1,eu1,TX⟩ := r1.get ex
  have TY:i < oy.toArray.size:=by
   have:=(List.getElem?_eq_some_iff.mp eu1).1
   simpa using this
  refine wpAny_pyNext_enum_itemD (Px (A:=X.A.in1) (I.ok.hd hc) b it l (h1.ne p1) oy.toArray) he ⟨h1,p1⟩ TY eZ (by simp [eZ,hel]) fun u h' tk eu a1 a2 a3 a4 hk=>⟨_,rfl,?_⟩
  have e2:u = u1:=Option.some.inj (eu.symm.trans (by simpa using eu1))
  subst e2
  refine wpAny_letOwnedTupleGo_enum a1 fun TZ UA wj=>?_
  have IP:e < s.heap.objs.size:=Heap.lt_size he
  have IQ:TZ.get? s.heap.objs.size = some { cls := .type "tuple",data := .seq #[.int i tk,u] }:=wj.extBut _ _ (Nat.ne_of_gt IP) a3
  refine ⟨.ref s.heap.objs.size,upd H s.heap.objs.size (.tup [.int i,x]),I.lI (t':=tk + 1) (ch:=[e,it]) GQ (fun c o hc ec=>?_) (Nat.le_refl _) ?_,rfl,⟨_,x,rfl,I.fresh,rfl,fun xs' q=>?_⟩,⟨⟨u,?_⟩,?_⟩,fun c hc=>?_⟩
  ·simp only [List.mem_cons,List.not_mem_nil,or_false,not_or] at hc
   exact wj.extBut _ _ hc.1 (hk c o hc.1 hc.2 ec)
  ·exact ⟨⟨Nat.le_trans (by decide:2 <= 1000) (Tt (Nat.le_refl _)),_,IQ,rfl⟩,[.int i tk,u],.cons ⟨_,rfl⟩ (.cons TX .nil),⟨_,IQ,rfl,0,rfl⟩⟩
  ·rw [I.wg q q1]
   exact ex
  ·have z:=UA
   rw [show ((i:Int) + 1) = ((i + 1:Nat):Int) by omega] at z
   exact z
  ·exact a2.1.at' fun o eo=>wj.extBut _ _ (Ne.symm eZ) eo
  ·rw [A8]
   ·exact (GQ c hc).1
   ·simp only [List.mem_cons,List.not_mem_nil,or_false] at hc
    rcases hc with rfl | rfl
    ·exact Nat.ne_of_lt IP
    ·exact Nat.ne_of_lt h1.lt
 done:=by
  intro X hP hw hK hc i pins s σ H E I GQ ⟨⟨old,he⟩,h1⟩ ⟨xs,q1,hl⟩
  subst hP hw hK
  obtain ⟨oy,r1,p1⟩ := I.sq q1
  have n1:=r1.length
  have n2:i = oy.toArray.size:=by simp only [List.size_toArray]; omega
  subst n2
  refine wpAny_pyNext_enum_endD (Px (A:=X.A.in1) (I.ok.hd hc) b it l (h1.ne p1) oy.toArray) he ⟨h1,p1⟩ fun h' hk=>⟨rfl,I.lJ (t':=s.toks) (ch:=[e,it]) GQ fun c o hc ec=>?_⟩
  simp only [List.mem_cons,List.not_mem_nil,or_false,not_or] at hc
  exact hk c o hc.2 ec
 self:=fun A i s Q E ⟨⟨old,he⟩,_⟩ hQ=>wpAny_pyIter_enum he hQ
theorem Q0 (l : Addr) (items : Array Value) (n : Nat) (UB : Option Addr) (sl : Array (Option Value)) :
  Meets (Builtin.«enumerate.__new__» ⟨[.type "enumerate",.ref l],[]⟩) (fun _ R s=>s.heap.get? l = some { cls := .type "tuple",dict:=UB,data := .seq items n,slots:=sl } /\
   R (.ok (.ret (.ref (kj true s.heap l).objs.size))) { s with heap:=(kj true s.heap l).push { cls := .type "enumerate",data := .fields #[.none,.bool false,.ref s.heap.objs.size,rawInt 0,.none,.none] } }) :=
 .of_wp fun prog w A R s h=>by
  obtain ⟨hp,g,d,tk,os⟩ := s
  obtain ⟨hl,h⟩ := h
  have p9:=sub_enumerate
  have hT:Heap.IsTuple (Shared.heap ⟨hp,g,d,tk,os⟩) l items:=⟨_,hl,rfl,n,rfl⟩
  wp_walk using wpAny_loadPart' hl
  refine wpAny_stack_any fun st=>wpAny_pure ?_
  split
  ·rename_i c _ _ _ _ _
   cases (c == Value.type "enumerate")
   ·wp_walk using wpAny_loadPart' hl,wpAny_pyIter_tuple hT
    exact ⟨_,rfl,h⟩
   ·wp_walk using wpAny_loadPart' hl,wpAny_pyIter_tuple hT
    exact ⟨_,rfl,h⟩
  ·wp_walk using wpAny_loadPart' hl,wpAny_pyIter_tuple hT
   exact ⟨_,rfl,h⟩
theorem Rf {P : Program} {w : World} {A : Around} {E : Value -> Shared -> Prop} {s : Shared} {l : Addr} {items : Array Value} {Q : Value -> Shared -> Prop} (hT : s.heap.IsTuple l items)
  (h:∀ h',IsEnum h' (s.heap.objs.size + 1) s.heap.objs.size 0 .none -> h'.IsTupleIter s.heap.objs.size l 0 -> (∀ b o,s.heap.get? b = some o -> h'.get? b = some o) -> Q (.ref (s.heap.objs.size + 1)) { s with heap:=h' }) :
  wpAny (model P w) A (call (.type "enumerate") [.ref l]) Q E s:=by
 obtain ⟨⟨c,UB,dt,sl⟩,hl,hc,n,hd⟩ := hT
 have oP:c = .type "tuple" := hc
 have oO:dt = .seq items n:=hd
 subst oP oO
 refine callType_new F.called_enumerate (by decide) (F.typeCall_enumerate_1 _) (F.newCall_enumerate_1 _) (fun obj=>F.args_object_init_2 obj _) F.entry_enumerate_new (Q0 l items n UB sl) ⟨hl,?_⟩
 have hz:(kj true s.heap l).objs.size = s.heap.objs.size + 1:=Heap.size_push ..
 show _ /\ _
 rw [hz]
 have he:=Heap.get?_push_size (kj true s.heap l) (o:={ cls := .type "enumerate",data := .fields #[.none,.bool false,.ref s.heap.objs.size,rawInt 0,.none,.none] }) rfl
 rw [hz] at he
 exact ⟨⟨_,he,rfl⟩,h _ he ⟨_,Heap.get?_push_of_some _ (Heap.get?_push_size _ rfl),rfl,rfl⟩ fun b o x=>Heap.get?_push_of_some _ (Heap.get?_push_of_some _ x)⟩
section
variable {X:Cx}
def b6 (K:PySem.W.Frag) (ta:TA):TI:=fun σ H R=>ta σ H fun vs H1=>∃ (b:Bool) (a:Addr),vs = [.ref a] /\ (∃ xs,Sq b K H1 a xs) /\ R (ac K b a) H1
theorem Xi {elts : List Expr} {kk : Nat} {ot : Pos} {a : Expr} {ta : TA} {p pos : Pos} (hg : Gl X "enumerate") (hm : X.mg "enumerate" = none) (ha : PA X [a] ta) (hs : starEach [a] X.env = [(false, eval a X.env)] := by rfl) :
  PI X (.Tuple elts kk ot) (.Call (.Name "enumerate" p) [a] [] pos) (b6 X.K ta):=by
 intro pins s σ H R I h
 refine Call_ (Ib I hg hm boot_enumerate (PyProof.Rows.callWith_type1 (Bv (ha pos pins s σ H _ I h) fun us s1 ⟨vs,H1,I1,r1,q1⟩=>?_) hs rfl))
 obtain ⟨b,l1,e,⟨xs,hx⟩,q⟩ := q1
 subst e
 obtain ⟨u1,rfl,TX⟩ := Ff r1
 cases TX
 obtain ⟨oy,rr1,p1⟩ := I1.sq hx
 have TY:=p1.lt
 have fin : ∀ h', IsEnum h' (s1.heap.objs.size + 1) s1.heap.objs.size 0 .none -> Gm b h' s1.heap.objs.size l1 0 -> (∀ b o, s1.heap.get? b = some o -> h'.get? b = some o) ->
   wpAny (model X.prog X.w) X.A (pyIter (.ref (s1.heap.objs.size + 1))) (kt X pins σ (.Tuple elts kk ot) R) X.xe { s1 with heap:=h' }:=fun h' a1 a2 hk=>by
  refine wpAny_pyIter_enum a1 ?_
  have I2:Ai X pins σ H1 { s1 with heap:=h' }:=I1.kept (t':=s1.toks) hk
  refine ⟨s1.heap.objs.size + 1,[s1.heap.objs.size + 1,s1.heap.objs.size],_,_,H1,rfl,I2,Sy (Nat.ne_of_gt (Nat.lt_succ_self _)) (Nat.ne_of_gt (Nat.lt_succ_of_lt TY)),⟨⟨_,a1⟩,a2⟩,fun c hc=>?_,q⟩
  have hle:s1.heap.objs.size <= c:=by
   simp only [List.mem_cons,List.not_mem_nil,or_false] at hc
   rcases hc with rfl | rfl <;> omega
  exact I1.mI hle (I1.aS.fresh hle)
 cases b with
 | false=>exact call_enumerate_list p1 fun h' a1 a2 a3 hk=>fin h' a1 a2 hk
 | true=>exact Rf p1 fun h' a1 a2 hk=>fin h' a1 a2 hk
end
abbrev i0 (K:PySem.W.Frag):TG:=ay K 2 (Wm (Gq 0) (Wm (Gq 1) h7))
theorem Ra {K : PySem.W.Frag} {b1 : Bool} {c : Addr} {xs : List V} {fr : List Nat} {tt : TT} {te : TE} {σ : St} {D : Addr} {H1 : Hp} {Q : Hp -> Prop} (Pv : Nat -> List V -> Hp -> Prop) (h0 : Pv 0 [] (upd H1 D (.lst [])))
  (hl:∀ i zs H,i <= xs.length -> Pv i zs H -> Sq b1 K H c xs)
  (hs:∀ i x T zs H,xs[i]? = some x -> Pv i zs H -> H T = none -> tt (some (.int i) :: some x :: Cz fr σ) (upd H T (.tup [.int i,x])) fun b H4 =>
   if b = true then te (some (.int i) :: some x :: Cz fr σ) H4 fun v H5=>H5 D = some (.lst zs) /\ zs.length < sizeLine /\ Pv (i + 1) (zs ++ [v]) (upd H5 D (.lst (zs ++ [v]))) else Pv (i + 1) zs H4)
  (mt:∀ σ H Q Q',(∀ b H',Q b H' -> Q' b H') -> tt σ H Q -> tt σ H Q') (me:∀ σ H Q Q',(∀ v H',Q v H' -> Q' v H') -> te σ H Q -> te σ H Q')
  (hd:∀ zs H,Pv xs.length zs H -> Q H):Di 2 fr (ac K b1 c) (i0 K) tt te σ D H1 Q:=by
 refine ⟨fun i m zs H=>m = xs.length - i /\ i <= xs.length /\ Pv i zs H,⟨xs.length,by simp,Nat.zero_le _,h0⟩,?_⟩
 rintro i m zs H' ⟨rfl,hi,p⟩
 have q1:=hl i zs H' hi p
 by_cases dE:i < xs.length
 ·refine .inr ⟨⟨xs,xs[i],q1,by simp [dE]⟩,fun v H2 y=>?_⟩
  obtain ⟨T,x,rfl,hT,rfl,e1⟩ := y
  refine ⟨T,_,rfl,Bw.of A1,rfl,_,_,rfl,x,_,rfl,rfl,⟨[some (.int i),some x],rfl,rfl⟩,?_⟩
  refine mt _ _ _ _ ?_ (hs i x T zs H' (e1 xs q1) p hT)
  intro b H4 q
  cases b with
  | false=>exact ⟨xs.length - (i + 1),by omega,rfl,dE,q⟩
  | true=>exact me _ _ _ _ (fun v H5 ⟨r1,r2,r3⟩=>⟨r1,r2,xs.length - (i + 1),by omega,rfl,dE,r3⟩) q
 ·have e:i = xs.length:=by omega
  subst e
  exact .inl ⟨⟨xs,q1,rfl⟩,hd zs H' p⟩
section
variable {X:Cx} {a b:Expr} {rest:List Expr} {ta tb:TE} {tA tX:TT} {pos:Pos}
def jl (t u:TT):TT:=fun σ H Q=>t σ H fun c H1=>∃ N:Bool -> Hp -> Prop,(c = false -> N false H1) /\ (c = true -> u σ H1 N) /\ ∀ d H2,N d H2 -> Q d H2
theorem Zd (ha:PT X a tA) (hb:PW X (.BoolOp .And (b :: rest) pos) tX):PW X (.BoolOp .And (a :: b :: rest) pos) (jl tA tX):=by
 intro wh pins s σ H Q I h
 refine isTrue_and (Bv (ha pins s σ H _ I h) fun c s1 dG=>?_)
 obtain ⟨H1,I1,N,q0,q1,q2⟩ := dG
 cases c with
 | true=>exact Bv (hb wh pins s1 σ H1 _ I1 (q1 rfl)) fun d s2 ⟨H2,I2,n⟩=>⟨H2,I2,q2 d H2 n⟩
 | false=>exact ⟨H1,I1,q2 _ _ (q0 rfl)⟩
end
section
variable {P:Program} {w:World} {A:Around} {E:Value -> Shared -> Prop} {s:Shared}
end
section
variable {X:Cx}
end
section
variable {X:Cx}
end
section
variable {X:Cx} {tg:Expr}
end
theorem Bl.here {P:Program} {w:World} {H:Hp} {h:Heap} {a:Addr} {o:HO} (x:Bl P w H h a o):∃ ob,h.get? a = some ob:=by
 cases o with
 | lst xs=>obtain ⟨_,_,_,_,e⟩ := x; exact ⟨_,e⟩
 | tup xs=>obtain ⟨_,_,_,o,e,_⟩ := x; exact ⟨_,e⟩
 | dK kvs=>obtain ⟨_,_,_,_,o,_,_,e,_⟩ := x; exact ⟨_,e⟩
 | dT kvs=>obtain ⟨_,_,_,_,o,_,_,e,_⟩ := x; exact ⟨_,e⟩
 | set S n=>obtain ⟨o,_,_,_,e,_⟩ := x; exact ⟨_,e⟩
 | ins C dx fs=>obtain ⟨_,_,_,e,_⟩ := x; exact ⟨_,e⟩
 | own y=>exact x
 | xd fs=>obtain ⟨mA,⟨od,es,ep,e,c⟩,r⟩ := x; exact ⟨_,e⟩
 | QL lo hi=>obtain ⟨t,u,v,e⟩ := x; exact ⟨_,e⟩
 | eM ob u=>exact ⟨_,x.1⟩
 | so ps=>exact ⟨_,(show h.get? a = some _ from x)⟩
 | tab q pos =>
  rcases x with e | ⟨_,_,_,e,_⟩
  ·exact ⟨_,e⟩
  ·exact ⟨_,e⟩
 | met f y=>exact ⟨_,(show h.get? a = some _ from x)⟩
 | ext φ=>exact x.2.1
theorem Fh.off {P:Program} {w:World} {H:Hp} {h:Heap} {a:Addr} (ok:Fh P w H h) (e:h.get? a = none):H a = none:=by
 cases q:H a with
 | none=>rfl
 | some u =>
  obtain ⟨ob,z⟩ := (ok a u q).here
  rw [e] at z
  cases z
def Bs (a:Addr) (cls:Value) (h:Heap):Prop := ∃ o vs,h.get? a = some o /\ o.cls = cls /\ o.data = .fields vs
def i6 (a:Addr) (h:Heap):Prop := ∃ o vs,h.get? a = some o /\ o.data = .fields vs
theorem Tf {P:Program} {w:World} {H:Hp} {h:Heap} {a:Addr} {cls:Value} (x:Bs a cls h):Bl P w H h a (.ext (Bs a cls)):=by
 refine ⟨x,?_,?_⟩
 ·obtain ⟨o,_,e,_⟩ := x
  exact ⟨o,e⟩
 ·rintro h1 h2 ⟨o,vs,e,c⟩ k
  exact ⟨o,vs,k o e,c⟩
def ky (h:Heap) (a T:Addr):Prop := ∃ oe vs oT ts a0,h.get? a = some oe /\ oe.data = .fields vs /\ vs[0]? = some a0 /\ vs[1]? = some (.ref T) /\ T ≠ a /\ h.get? T = some oT /\ oT.data = .fields ts /\ ts[3]? = some .none
structure T8 (P:Program) (w:World) (fr:List Addr) (H:Hp) (h:Heap) (H':Hp) (h':Heap) (a T:Addr) (cls:Value):Prop where
 un:Un fr [] H H' h h'
 ok:Fh P w H' h'
 exc:H' a = some (.ext (Bs a cls))
 off:H' T = none
 new:h.get? T = none
 tr:ky h' a T
def Ax (P:Program) (w:World):Vs:=fun outer H s E e s'=>∃ (a T:Addr) (cls:Value) (H':Hp),e = .ref a /\ s'.os = s.os /\ AllBare s'.gens /\ T8 P w (gR outer) H s.heap H' s'.heap a T cls /\ E cls none H'
theorem i9 {P : Program} {w : World} {fr old : List Addr} {H H' : Hp} {h h' h2 : Heap} {a T : Addr} {cls : Value} (u : Un fr [] H H' h h') (ok : Fh P w H' h') (kZ : ∀ b ∈ fr, H' b = none)
  (su:∀ b ∈ fr,∃ o,h'.get? b = some o /\ ∀ vs,o.data ≠ .fields vs) (ha:H' a = some (.ext (Bs a cls))) (hold:∀ b ∈ old,H' b = none /\ h.get? b = none)
  (st:(PySem.W.hideAll h' (fr ++ a :: old)).StaysIn h2) (sl:h'.UpToSlots h2) (xa:Bs a cls h2) (xT:i6 T h2) (nT:(PySem.W.hideAll h' (fr ++ a :: old)).get? T = none) (na:T ≠ a) :
  Un fr [] H H' h h2 /\ Fh P w H' h2 /\ H' T = none /\ h.get? T = none:=by
 have hT:H' T = none /\ h.get? T = none:=by
  cases q:h'.get? T with
  | none =>
   refine ⟨ok.off q,?_⟩
   cases z:h.get? T with
   | none=>rfl
   | some o =>
    obtain ⟨o',e⟩ := u.there T o z (by simp)
    rw [q] at e
    cases e
  | some o =>
   by_cases hm:T ∈ fr ++ a :: old
   ·rcases List.mem_append.mp hm with z | z
    ·obtain ⟨o1,e1,d1⟩ := su T z
     obtain ⟨HQ,e2⟩ := sl T o1 e1 d1
     obtain ⟨o3,vs,e3,d3⟩ := xT
     rw [e2] at e3
     cases e3
     exact absurd d3 (d1 vs)
    ·rcases List.mem_cons.mp z with z | z
     ·exact absurd z na
     ·exact hold T z
   ·have:=PySem.W.hideAll_get _ q hm
    rw [nT] at this
    cases this
 have pd:∀ b o u',h'.get? b = some o -> H' b = some u' -> b ≠ a -> h2.get? b = some o:=fun b o u' e q n1=>by
  refine st b o (PySem.W.hideAll_get _ e fun hm=>?_)
  rcases List.mem_append.mp hm with z | z
  ·rw [kZ b z] at q
   cases q
  ·rcases List.mem_cons.mp z with z | z
   ·exact n1 z
   ·rw [(hold b z).1] at q
    cases q
 have u3:∀ b o o',h.get? b = some o -> h'.get? b = some o' -> H' b = none -> b ∉ fr -> h2.get? b = some o':=fun b o o' e e' q n=>by
  refine st b o' (PySem.W.hideAll_get _ e' fun hm=>?_)
  rcases List.mem_append.mp hm with z | z
  ·exact n z
  ·rcases List.mem_cons.mp z with z | z
   ·rw [z,ha] at q
    cases q
   ·rw [(hold b z).2] at e
    cases e
 refine ⟨⟨fun b o e q n _=>u3 b o o e (u.keep b o e q n (by simp)) (u.free b o e q (by simp)) n,fun b o e q n _=>?_,fun b o e q _=>u.free b o e q (by simp),fun b o e _=>?_,u.fS,u.fL,u.fT⟩,fun b v q=>?_,hT⟩
 ·obtain ⟨sl1,e1⟩ := u.slot b o e q n (by simp)
  obtain ⟨o2,e2,d2⟩ := su b n
  rw [e1] at e2
  cases e2
  obtain ⟨sl3,e3⟩ := sl b _ e1 d2
  exact ⟨sl3,e3⟩
 ·obtain ⟨o',e'⟩ := u.there b o e (by simp)
  cases q:H' b with
  | none =>
   by_cases n:b ∈ fr
   ·obtain ⟨o1,e1,d1⟩ := su b n
    obtain ⟨HQ,e2⟩ := sl b o1 e1 d1
    exact ⟨_,e2⟩
   ·exact ⟨_,u3 b o o' e e' q n⟩
  | some v =>
   by_cases n1:b = a
   ·obtain ⟨o2,_,e2,_⟩ := xa
    rw [n1]
    exact ⟨_,e2⟩
   ·exact ⟨_,pd b o' v e' q n1⟩
 ·by_cases n1:b = a
  ·subst n1
   rw [ha] at q
   cases q
   exact Tf xa
  ·refine (ok b v q).gQ (fun c x hc e=>?_) (fun c e=>e) fun c xs e=>e
   rcases hc with z | z
   ·subst z
    exact pd c x v e q n1
   ·refine pd c x _ e z fun e2=>?_
    rw [e2,ha] at z
    cases z
section
variable {X:Cx} {pins:List (Addr × Obj)} {σ:St} {H:Hp} {s:Shared}
theorem Ai.su (I:Ai X pins σ H s):∀ b ∈ gR X.stack,∃ o,s.heap.get? b = some o /\ ∀ vs,o.data ≠ .fields vs:=fun b hb=>(I.stack.mem hb).2
theorem Ai.sT {h' : Heap} {e : Addr} {cls : Value} {vs : List Value} {t' : Nat} (I : Ai X pins σ H s) (m : Heap.MadeExcOf s.heap h' e cls vs) :
  A6 H (upd H e (.ext (Bs e cls))) /\ Ai X pins σ (upd H e (.ext (Bs e cls))) { s with heap:=h',toks:=t' }:=by
 have hn:=I.aS.off m.new
 have same:A6 H (upd H e (.ext (Bs e cls))):=fun b o q=>by
  rw [A8 (Aa q hn)]
  exact q
 obtain ⟨t,e1,_,_⟩ := m.there
 refine ⟨same,I.un ⟨fun b o q _ _ _=>m.keeps b o q,fun b o q _ _ _=>⟨o.slots,m.keeps b o q⟩,fun b o q z _=>?_,fun b o q _=>⟨o,m.keeps b o q⟩,fun b xs q=>same _ _ q,fun b o u q=>same _ _ q,fun b ps q=>⟨#[],by rw [same _ _ q]; simp⟩⟩ fun b u q=>?_⟩
 ·rw [A8 (fun e2=>?_)]
  ·exact z
  ·rw [e2,m.new] at q
   cases q
 ·by_cases hb:b = e
  ·subst hb
   rw [A1] at q
   cases q
   exact Tf ⟨_,_,e1,rfl,rfl⟩
  ·rw [A8 hb] at q
   exact (I.aS b u q).gQ (fun c v _ z=>m.keeps c v z) (fun c z=>same _ _ z) fun c xs z=>same _ _ z
theorem Ai.lK {H':Hp} {s':Shared} {a T:Addr} {cls:Value} (I:Ai X pins σ H s) (os:s'.os = s.os) (bare:AllBare s'.gens) (F:T8 X.prog X.w (gR X.stack) H s.heap H' s'.heap a T cls):Ai X pins σ H' s' :=
 I.tV os F.un F.ok bare fun b z=>absurd z (by simp)
theorem Tk (I:Ai X pins σ H s) {a:Addr} {old:List Addr}:s.heap.FunFrames (PySem.W.hideAll s.heap (gR X.stack ++ a :: old)) X.stack :=
 PySem.W.funFrames_hide I.stack fun env he b hb=>List.mem_append.mpr (.inl (List.mem_filterMap.mpr ⟨env,he,hb⟩))
theorem Gr {h:Heap} {fr old:List Addr} {a:Addr}:(PySem.W.hideAll h (fr ++ a :: old)).get? a = none:=PySem.W.hideAll_none _ (List.mem_append.mpr (.inr (.head _)))
theorem Kj {h:Heap} {fr old:List Addr} {a b:Addr} (hb:b ∈ old):(PySem.W.hideAll h (fr ++ a :: old)).get? b = none:=PySem.W.hideAll_none _ (List.mem_append.mpr (.inr (.tail _ hb)))
theorem T8.cls {P:Program} {w:World} {fr:List Addr} {H H':Hp} {h h':Heap} {a T:Addr} {cls:Value} (F:T8 P w fr H h H' h' a T cls):Bs a cls h':=(F.ok a _ F.exc).1
theorem T8.mO {P:Program} {w:World} {fr:List Addr} {H H':Hp} {h h' B:Heap} {a T:Addr} {cls:Value} (F:T8 P w fr H h H' h' a T cls) (hB:B.get? T = none):∃ a0,h'.TracedW B a cls a0:=by
 obtain ⟨oe,vs,oT,ts,a0,e1,d1,h0,h1,nT,e2,d2,h3⟩ := F.tr
 obtain ⟨o,sx,q,c,_⟩ := F.cls
 rw [e1] at q
 cases q
 exact ⟨a0,oe,vs,T,oT,ts,e1,⟨c,h0⟩,d1,h1,hB,nT,e2,d2,h3⟩
theorem T8.on {P : Program} {w : World} {fr old : List Addr} {H H' : Hp} {h h' h2 : Heap} {a : Addr} {cls a0 : Value} (un : Un fr [] H H' h h') (ok : Fh P w H' h') (exc : H' a = some (.ext (Bs a cls))) (kZ : ∀ b ∈ fr, H' b = none)
  (su:∀ b ∈ fr,∃ o,h'.get? b = some o /\ ∀ vs,o.data ≠ .fields vs) (hold:∀ b ∈ old,H' b = none /\ h.get? b = none)
  (st:(PySem.W.hideAll h' (fr ++ a :: old)).StaysIn h2) (sl:h'.UpToSlots h2) (tr:h2.TracedW (PySem.W.hideAll h' (fr ++ a :: old)) a cls a0):∃ T,T8 P w fr H h H' h2 a T cls:=by
 obtain ⟨oe,vs,T,oT,ts,q1,⟨q2,q3⟩,q4,q5,q6,q7,q8,q9,TM⟩ := tr
 obtain ⟨u,k,n1,n2⟩ := i9 (T:=T) un ok kZ su exc hold st sl ⟨oe,vs,q1,q2,q4⟩ ⟨oT,ts,q8,q9⟩ q6 q7
 exact ⟨T,u,k,exc,n1,n2,oe,vs,oT,ts,a0,q1,q4,q3,q5,q7,q8,q9,TM⟩
end
section
variable {P:Program} {w:World} {K:PySem.W.Frag} {mg:Str -> Option Value} {base:Heap} {N:List Str} {qual:Str} {scope:Scope} {f:Addr} {cd:Value} {A:Around} {outer:List Env} {s₀:Shared} {H₀:Hp} {E:XK}
theorem Xa {pins : List (Addr × Obj)} {σ : St} {H H' : Hp} {s : Shared} {s' : Shared} {a T : Addr} {cls : Value} (I : Ai (Fg (Ax P w) P w K mg base N qual scope f cd A outer s₀ H₀ E) pins σ H s)
  (os:s'.os = s.os) (bare:AllBare s'.gens) (F:T8 P w (gR (Fg (Ax P w) P w K mg base N qual scope f cd A outer s₀ H₀ E).stack) H s.heap H' s'.heap a T cls) (hE:E cls none H'):Ax P w outer H₀ s₀ E (.ref a) s':=by
 have I2:=I.lK os bare F
 refine ⟨a,T,cls,H',rfl,I2.os,I2.bare,⟨I2.base,I2.aS,F.exc,F.off,?_,F.tr⟩,hE⟩
 cases q:s₀.heap.get? T with
 | none=>rfl
 | some o =>
  obtain ⟨o',e⟩ := I.base.there T o q (by intro z; cases z)
  rw [F.new] at e
  cases e
def Pg (X:Cx) (R:St -> XK -> Prop):Prop := ∀ (pins:List (Addr × Obj)) (σ:St) (H:Hp) (s:Shared) (e:Value) (s':Shared) (E:XK),R σ E -> Ai X pins σ H s -> Ax X.prog X.w X.stack H s E e s' -> X.xe e s'
def RD (E:XK):St -> XK -> Prop:=fun _ E1=>∀ c d H,E1 c d H -> E c d H
theorem E2:Pg (Fg (Ax P w) P w K mg base N qual scope f cd A outer s₀ H₀ E) (RD E):=by
 rintro pins σ H s e s' E1 hR I ⟨a,T,cls,H',rfl,os,bare,F,hE⟩
 have I1:=I.lK os bare F
 obtain ⟨a0,tr⟩ := F.mO (B:=PySem.W.hideAll s'.heap (gR (Fg (Ax P w) P w K mg base N qual scope f cd A outer s₀ H₀ E).stack ++ a :: [T])) (Kj (by simp))
 refine wpAny_leaving_nextW (L:=s₀.heap.objs.size) (outer:=outer) I.ok.frames (Tk I1) rfl tr (fun b o q=>PySem.W.of_hideAll _ q) Gr fun h' hL=>?_
 obtain ⟨k1,k2,k3,k4⟩ := hL
 obtain ⟨T',F'⟩ := T8.on F.un F.ok F.exc I1.fI I1.su (fun b hb=>by rw [List.mem_singleton.mp hb]; exact ⟨F.off,F.new⟩) k1 k4 k3
 exact Xa (s':={ s' with heap:=h' }) I os bare F' (hR _ _ _ hE)
def Vv (X:Cx) (E:XK):Prop := ∀ (pins:List (Addr × Obj)) (σ:St) (H:Hp) (s:Shared) (h':Heap) (e:Addr) (cls:Value) (vs:List Value),Ai X pins σ H s -> Heap.MadeExcOf s.heap h' e cls vs ->
 (∀ H2,A6 H H2 -> E cls none H2) -> X.xe (.ref e) { s with heap:=h' }
theorem F4:Vv (Fg (Ax P w) P w K mg base N qual scope f cd A outer s₀ H₀ E) E:=by
 intro pins σ H s h' e cls vs I m hE
 obtain ⟨same,I1⟩ := I.sT (t':=s.toks) m
 obtain ⟨t,e1,_,_⟩ := m.there
 have un:Un (gR (Fg (Ax P w) P w K mg base N qual scope f cd A outer s₀ H₀ E).stack) [] H (upd H e (.ext (Bs e cls))) s.heap h' :=
  ⟨fun b o q _ _ _=>m.keeps b o q,fun b o q _ _ _=>⟨o.slots,m.keeps b o q⟩,fun b o q z _=>by
   rw [A8 (fun e2=>by rw [e2,m.new] at q; cases q)]
   exact z,fun b o q _=>⟨o,m.keeps b o q⟩,fun b xs q=>same _ _ q,fun b o u q=>same _ _ q,fun b ps q=>⟨#[],by rw [same _ _ q]; simp⟩⟩
 refine wpAny_leaving_firstW (base:=PySem.W.hideAll h' (gR (Fg (Ax P w) P w K mg base N qual scope f cd A outer s₀ H₀ E).stack ++ e :: [])) (L:=s₀.heap.objs.size) (outer:=outer) I.ok.frames (Tk I1) rfl e1 (fun b o q=>PySem.W.of_hideAll _ q) Gr rfl rfl rfl fun h2 hL=>?_
 obtain ⟨k1,k2,k3,k4⟩ := hL
 obtain ⟨T',F'⟩ := T8.on un I1.aS A1 I1.fI I1.su (fun b hb=>absurd hb (by simp)) k1 k4 k3
 exact Xa (s':={ s with heap:=h2 }) I rfl I.bare F' (hE _ same)
end
def Nv (K:PySem.W.Frag) (C:Addr):Prop:=PySem.W.excIn K C [.type "ValueError",.type "Exception",.type "BaseException",.type "object"] "ValueError.__new__" = true
theorem Te {K : PySem.W.Frag} {h : Heap} {C : Addr} {bmB : List Value} {newId : String} (X : K.In h) (q : PySem.W.excIn K C bmB newId = true) :
  ∃ (bm:List Value) (N:Addr) (nm qn:Str) (bs:List Value) (hd:Bool) (sn:List Str) (sub:List Value) (ab:Bool) (col:Option Bool) (dd:Option Addr) (k0 k1 k2 k3 k5:Option Value) (mN:Str -> Option Value),
   h.get? C = some (excClassObj nm qn C N bs bm hd sn sub ab col dd k0 k1 k2 k3 k5 newId) /\ h.Ns N mN /\ mN "__init__" = none /\ OwnTail h bmB bm:=by
 unfold PySem.W.excIn at q
 split at q
 case h_2=>exact absurd q Bool.false_ne_true
 case h_1 dd cd sl ho =>
  split at q
  case h_2=>exact absurd q Bool.false_ne_true
  case h_1 C' bm k0 k1 k2 k3 n k5 hm hs =>
   simp only [beq_iff_eq,Bool.and_eq_true,Bool.not_eq_true'] at q
   obtain ⟨⟨⟨⟨⟨e1,e2⟩,e3⟩,e4⟩,e5⟩,e6⟩ := q
   subst e1 e2
   obtain ⟨nm,bs,mro,ns,qn,hd,sn,sub,ab,col,del⟩ := cd
   dsimp only at hm e3 e5 e6
   subst hm e3
   obtain ⟨l⟩ := sl
   have hl:l = [k0,k1,k2,k3,some (.builtin n),k5]:=hs
   subst hl
   exact ⟨bm,ns,nm,qn,bs,hd,sn,sub,ab,col,dd,k0,k1,k2,k3,k5,_,X _ _ ho,.of_isNs (PySem.W.isNs_of_in X e5),PySem.W.nsMap_none_of_in X e5 e6,PySem.W.tail_of_in X e4⟩
section
variable {X:Cx} {x:Str} {C:Addr} {p np dH pos:Pos} {e:Expr} {es:List Expr} {t:TA} {E:XK}
def g8 (C:Addr) (t:TA) (E:XK):TS:=fun _ σ H=>t σ H fun vs H1=>vs.length <= sizeLine /\ ∀ H2,A6 H1 H2 -> E (.ref C) none H2
theorem D8 (hR : Vv X E) (hc : X.calm = true) (hg : Gl X x) (hm : X.mg x = some (.ref C)) (hx : Nv X.K C) (ha : PA X (e :: es) t) (mE : (x == ("__debug__" : Str)) = false := by decide)
  (he:starEach (e :: es) X.env = (false,eval e X.env) :: starEach es X.env:=by rfl) (nK:(backTo dH (starEach es X.env)).any (·.1) = false:=by rfl) :
  PS X (.Raise (some (.Call (.Name x np) (e :: es) [] dH)) none pos) (g8 C t E):=by
 intro pins s σ H D I h
 obtain ⟨bm,N,nm,qn,bs,hd,sn,sub,ab,col,dd,k0,k1,k2,k3,k5,mN,hC,hN,hni,T⟩ := Te I.ok.mod.eO hx
 have UC:(backTo dH (starEach (e :: es) X.env)).any (·.1) = false:=by
  rw [he]
  show (false || (backTo dH (starEach es X.env)).any (·.1)) = false
  rw [nK]
  rfl
 refine wpAny_Raise_call_subT (bm:=bm) (N:=N) (nm:=nm) (q:=qn) (bs:=bs) (hdct:=hd) (sn:=sn) (sub:=sub) (ab:=ab) (col:=col) (dd:=dd) (k0:=k0) (k1:=k1) (k2:=k2) (k3:=k3) (k5:=k5) (mN:=mN) (C:=C)
  PySem.F.excBase_ValueError (T.hasType rfl) (I.ok.hd hc) UC hni (Gv I hg hm ⟨rfl,?_⟩ mE)
 have w:=ha dH pins s σ H _ I h
 rw [he] at w ⊢
 refine Calls.evalArgs_plain (Bv w fun us s2 z=>?_)
 obtain ⟨vs,H2,I2,r,hl,hq⟩ := z
 exact ⟨rfl,by rw [<- r.length]; exact hl,I2.bk _ _ hC,hN.keeps I2.bk,T.keeps I2.bk,fun h' a m=>hR pins σ H2 s2 h' a _ us I2 m hq⟩
variable {k:Nat} {f:Addr} {fd:FuncData} {ps:List Str} {sp:Sp} {fJ:List V} {ds:List Value} {R:St -> XK -> Prop}
def fm (sp:Sp) (fJ:List V) (R:St -> XK -> Prop) (t:TA):TE:=fun σ H Q=>t σ H fun vs H1=>∃ E,R σ E /\ sp (vs ++ fJ) H1 Q E
theorem Ts {pins : List (Addr × Obj)} {σ : St} {H : Hp} {s : Shared} {Q : VK} {us : List Value} {vs : List V} (F : A9 X.prog X.w X.K X.mg X.base (Ax X.prog X.w) k f fd ps sp) (hr : Cb k X.A) (hb : Ah X.K fd ps ds) (hd : B2 fJ ds) (hx : Pg X R)
  (I:Ai X pins σ H s) (r:B2 vs us) (hE:R σ E) (h:sp (vs ++ fJ) H Q E):wpAny (model X.prog X.w) X.A (call (.ref f) us) (EP X pins σ Q) X.xe s:=by
 have r2:=r.append hd
 have hl:(us ++ ds).length = ps.length:=r2.length.symm.trans (F.len _ _ _ _ h)
 have run:=F.run X.A X.stack s H ⟨us,[]⟩ (us ++ ds) (vs ++ fJ) Q E hr I.vY (hb s us I.fQ hl) r2 h
 refine wpAny_call (codeAny_mono run fun res s' hq=>?_)
 match res,hq with
 | .error e,hq=>exact hx pins σ H s e s' E hE I hq
 | .ok (.ret u),hq=>exact I.after hq
 | .ok .next,hq=>exact hq.elim
 | .ok .brk,hq=>exact hq.elim
 | .ok .cont,hq=>exact hq.elim
theorem C7 (F : A9 X.prog X.w X.K X.mg X.base (Ax X.prog X.w) k f fd ps sp) (hr : Cb k X.A) (hg : Gl X x) (hm : X.mg x = some (.ref f)) (hk : PySem.W.keepIn X.K (.ref f) = true) (hb : Ah X.K fd ps ds) (hd : B2 fJ ds) (hx : Pg X R) (ha : PA X (e :: es) t)
  (mE:(x == ("__debug__" : Str)) = false:=by decide) (he:starEach (e :: es) X.env = (false,eval e X.env) :: starEach es X.env:=by rfl) (nK:(backTo pos (starEach es X.env)).any (·.1) = false:=by rfl) :
  PE X (.Call (.Name x p) (e :: es) [] pos) (fm sp fJ R t):=by
 intro pins s σ H Q I h
 have w:=ha pos pins s σ H _ I h
 refine wpAny_Call_Name_kw (Gv I hg hm ?_ mE)
 refine PySem.W.callWith_K (h₀:=X.base) I.ok.mod.eO hk (Bv w fun us s1 z=>?_) he nK
 obtain ⟨vs,H1,I1,r,E,hE,q⟩ := z
 exact ⟨I1.fQ,Ts F hr hb hd hx I1 r hE q⟩
theorem Ar {P:Program} {w:World}:Gb (Ax P w) X E0:=fun _ _ _ _ _ _ _ ⟨_,_,_,_,_,_,_,_,z⟩=>z.elim
end
section
variable {P:Program} {w:World} {K:PySem.W.Frag} {mg:Str -> Option Value} {base:Heap} {x qual:Str} {st:Stmt} {f:Addr} {fd:FuncData} {N ps:List Str} {k:Nat} {sp:Sp}
theorem Dn.lZ (F : Dn K x qual st f fd) (S : Aj N ps (A4 st)) (len : ∀ vs H Q E, sp vs H Q E -> vs.length = ps.length)
  (iP:∀ (dB:Value) (A:Around) (outer:List Env) (s:Shared) (H:Hp) (vs:List V) (Q:VK) (E:XK),Cb k (A.deeper (envOfC qual (A4 st) s.heap.objs.size f dB)) -> sp vs H Q E ->
   ∃ t,M5 (Fg (Ax P w) P w K mg base N qual (A4 st) f dB A outer s H E) (Ac st) t /\ t { nx:=fun _ H'=>Q .cZ H',rt:=Q } (start N vs) H):A9 P w K mg base (Ax P w) (k + 1) f fd ps sp:=by
 obtain ⟨oc,od,kV,doc,pm,an,dB,ct,lG,rfl,lk,oY⟩ := F.ex
 exact Zu lk oY S len (iP dB)
theorem Pf.lZ (F : Pf K x qual st f fd) (S : Aj N ps (A4 st)) (len : ∀ vs H Q E, sp vs H Q E -> vs.length = ps.length)
  (iP:∀ (dB:Value) (A:Around) (outer:List Env) (s:Shared) (H:Hp) (vs:List V) (Q:VK) (E:XK),Cb k (A.deeper (envOfC qual (A4 st) s.heap.objs.size f dB)) -> sp vs H Q E ->
   ∃ t,M5 (Fg (Ax P w) P w K mg base N qual (A4 st) f dB A outer s H E) (Ac st) t /\ t { nx:=fun _ H'=>Q .cZ H',rt:=Q } (start N vs) H):A9 P w K mg base (Ax P w) (k + 1) f fd ps sp:=by
 obtain ⟨oc,od,dV,kV,doc,pm,an,dB,ct,lG,rfl,lk,oY⟩ := F.ex
 exact Zu lk oY S len (iP dB)
theorem Dn.okN (F : Dn K x qual st f fd) (S : Aj N ps (A4 st)) (len : ∀ vs H Q E, sp vs H Q E -> vs.length = ps.length)
  (iP:∀ (dB:Value) (A:Around) (outer:List Env) (s:Shared) (H:Hp) (vs:List V) (Q:VK) (E:XK),Cb k (A.deeper (envOfC qual (A4 st) s.heap.objs.size f dB)) -> sp vs H Q E ->
   ∃ t,M5 (Fg (Ax P w) P w K mg base N qual (A4 st) f dB A outer s H E).QN (Ac st) t /\ t { nx:=fun _ H'=>Q .cZ H',rt:=Q } (start N vs) H):A9 P w K mg base (Ax P w) (k + 1) f fd ps sp :=
 F.lZ S len fun dB A outer s H vs Q E hr nL=>let ⟨t,h,q⟩ := iP dB A outer s H vs Q E hr nL; ⟨t,h.QN,q⟩
theorem Xb {qual : Str} {scope : Scope} {cd : Value} {A : Around} {outer : List Env} {s : Shared} {H : Hp} {E : XK} :
  PassesOwn (model P w) (Fg (Ax P w) P w K mg base N qual scope f cd A outer s H E).A (Fg (Ax P w) P w K mg base N qual scope f cd A outer s H E).env (Fg (Ax P w) P w K mg base N qual scope f cd A outer s H E).xe:=PassesOwn.leaving
end
open PySem.W (Looks)
section
variable {X:Cx} {pins:List (Addr × Obj)} {σ:St} {H:Hp} {s:Shared} {C:Addr}
theorem Ws {M:Model} {K:PySem.W.Frag} {h:Heap} {c:Addr} {b:Value} {r:Bool} (eO:K.In h) (e:PySem.W.subIn K (.ref c) b = some r):Looks M h (isType (.ref c)) true:=by
 obtain ⟨cd,a,_⟩ := Option.bind_eq_some_iff.mp (show PySem.W.mroIn K c b = some r from e)
 unfold PySem.W.clsIn at a
 split at a
 ·rename_i ho
  intro A' Q' E' s' k q
  unfold isType loadHead
  refine wpAny_bind (wpAny_loadPart (k _ _ (eO _ _ ho)) ?_)
  exact wpAny_pure q
 ·cases a
theorem ba {M:Model} {K:PySem.W.Frag} {h:Heap} {c:Addr} (eO:K.In h) (e:PySem.W.subIn K (.ref c) (.type "BaseException") = some true):Looks M h (isExcClass (.ref c)) true:=by
 unfold isExcClass
 refine (Ws eO e).andThen ?_
 rw [if_pos rfl]
 exact PySem.W.looks_subIn eO e
theorem Yw {prog : Program} {w : World} {A : Around} {E : Value -> Shared -> Prop} {K : PySem.W.Frag} {v t c : Value} {Q : Value -> Shared -> Prop} (eO : K.In s.heap) (ht : ∀ M, Looks M s.heap (typeOf v) t) (e : PySem.W.kitOne K t c = some true)
  (hx:v ≠ .builtin "__main__.__loader__#opaque") (h:Q (.bool true) s):wpAny (model prog w) A (call (.builtin "isinstance") [v,c]) Q E s:=by
 refine call_isinstance (S:=fun _ R s=>(K.In s.heap /\ ∀ M,Looks M s.heap (typeOf v) t) /\ R (.ok (.ret (.bool true))) s) (fun prog w A R s hs=>isinstance_outer ?_ hx) ⟨⟨eO,ht⟩,h⟩
 obtain ⟨⟨eO,ht⟩,hq⟩ := hs
 obtain ⟨h0,g,d,tt,os⟩ := s
 unfold Builtin.«isinstance.nested»
 refine wpAny_bind ((ht _).at ?_)
 unfold PySem.W.kitOne at e
 by_cases q:(t == c) = true
 ·rw [if_pos q]
  first
   | exact wpAny_bind (wpAny_rule hq)
   | exact wpAny_bind (wpAny_rule (wpAny_pure hq))
 ·rw [if_neg q] at e ⊢
  obtain ⟨k1,k2,k3⟩ := PySem.W.kit_cls (M:=model prog w) eO e
  have k4:Looks (model prog w) h0 (isInstance v c) true:=(ht _).andThen k3
  refine wpAny_bind (k1.at ?_)
  rw [if_pos (by decide)]
  k_delta "plainIsInstance"
  refine wpAny_bind (wpAny_bind (k2.at ?_))
  simp only [Bool.not_true,if_false,Bool.false_eq_true]
  refine wpAny_bind (k4.at ?_)
  first
   | exact wpAny_pure (wpAny_pure hq)
   | (simp only [if_true]; exact wpAny_pure (wpAny_pure hq))
   | (simp only [if_true]; exact wpAny_pure hq)
   | trace_state
theorem Yq {M : Model} {A : Around} {E : Value -> Shared -> Prop} {i : Nat} {n : Str} {pos : Pos} {Q : Unit -> Shared -> Prop} (I : Ai X pins σ H s) (hN : X.N.Nodup) (hi : X.N[i]? = some n) (hl : X.env.scope.names.lookup n = some .local)
  (h:∀ s',Ai X pins (σ.set i none) H s' -> Q () s'):wpAny M A (do bindName X.env n .none; unbindBehindTheSuite X.env n pos) Q E s:=by
 obtain ⟨m,hn,hm⟩ := id I.loc
 refine wpAny_nameGoes_keeps hl hn (by rw [I.ok.kind]; rfl) fun h' v SO hs=>h _ ?_
 have kp:∀ b o,b ≠ X.env.locals -> s.heap.get? b = some o -> h'.get? b = some o:=fun b o hb e=>(hs.2 b hb).trans e
 have GK:∀ b o,X.s₀.heap.get? b = some o -> b ≠ X.env.locals:=fun b o e=>Nat.ne_of_lt (Nat.lt_of_lt_of_le (Heap.lt_size e) I.ok.above)
 have neT:∀ b u,H b = some u -> b ≠ X.env.locals:=fun b u e z=>by
  rw [z,I.free] at e
  cases e
 refine ⟨I.ok,I.os,I.bare,⟨fun b o e q1 q2 q3=>kp b o (GK b o e) (I.base.keep b o e q1 q2 q3),fun b o e q1 q2 q3=>?_,I.base.free,fun b o e q3=>?_,I.base.fS,I.base.fL,I.base.fT⟩,⟨_,SO,fun j x w e1 e2 e3=>?_⟩,fun x c e=>?_,I.free,I.dW,fun p hp=>?_,fun b u e=>?_,?_⟩
 ·obtain ⟨sl,z⟩ := I.base.slot b o e q1 q2 q3
  exact ⟨sl,kp b _ (GK b o e) z⟩
 ·obtain ⟨o',z⟩ := I.base.there b o e q3
  exact ⟨o',kp b _ (GK b o e) z⟩
 ·have IT : i ≠ j := fun z => by
   subst z
   rw [List.getElem?_set] at e2
   rw [if_pos rfl] at e2
   split at e2 <;> cases e2
  rw [List.getElem?_set_ne IT] at e2
  obtain ⟨u,ru,lu⟩ := hm j x w e1 e2 e3
  have hxn:x ≠ n:=fun z=>IT (Kv hN hi (by rw [<- z]; exact e1))
  refine ⟨u,ru,?_⟩
  rcases lu with ⟨k1,k2⟩ | ⟨k1,c,k2,o,k3,k4⟩
  ·exact .inl ⟨k1,by show (if x = n then v else m x) = some u; rw [if_neg hxn]; exact k2⟩
  ·exact .inr ⟨k1,c,k2,o,kp c o (I.sJ x c k2) k3,k4⟩
 ·obtain ⟨v',o,k3,k4⟩ := I.cell x c e
  exact ⟨v',o,kp c o (I.sJ x c e) k3,k4⟩
 ·obtain ⟨k1,k2,k3,k4,k5⟩ := I.pin p hp
  exact ⟨kp _ _ k3 k1,k2,k3,k4,k5⟩
 ·refine (I.aS b u e).gQ (fun c v' hc z=>kp c v' ?_ z) (fun _ z=>z) fun _ _ z=>z
  rcases hc with hc | hc
  ·rw [hc]
   exact neT b u e
  ·exact neT c _ hc
 ·rw [List.length_set]
  exact I.len
end
abbrev Cx.at (X:Cx) (A:Around):Cx:={ X with A:=A,calm:=false,xe:=fun _ _=>False }
abbrev Cx.wk (X:Cx) (pn:List (Addr × Obj)) (W:Value -> Shared -> Prop):Cx:={ X with pn:=pn,xe:=W }
section
variable {X:Cx} {pins:List (Addr × Obj)} {σ:St} {H:Hp} {s:Shared}
theorem Ai.at (I:Ai X pins σ H s) {A:Around} (hA:A.frames = X.A.frames):Ai (X.at A) pins σ H s :=
 ⟨⟨I.ok.mod,I.ok.kind,I.ok.glob,I.ok.blt,I.ok.above,I.ok.inj,I.ok.has,I.ok.vW,fun z=>(nomatch z),hA.trans I.ok.frames,I.ok.GJ,I.ok.HR,I.ok.bs,I.ok.oX,I.ok.mF,I.ok.mG,I.ok.fU,I.ok.sI⟩,I.os,I.bare,I.base,I.loc,I.cell,I.free,I.dW,I.pin,I.aS,I.len⟩
theorem Ai.back {A:Around} (ok:X.Ok) (I:Ai (X.at A) pins σ H s):Ai X pins σ H s:=⟨ok,I.os,I.bare,I.base,I.loc,I.cell,I.free,I.dW,I.pin,I.aS,I.len⟩
theorem Ai.wk {W:Value -> Shared -> Prop} (I:Ai X pins σ H s):Ai (X.wk (X.pn ++ pins) W) [] σ H s :=
 ⟨⟨I.ok.mod,I.ok.kind,I.ok.glob,I.ok.blt,I.ok.above,I.ok.inj,I.ok.has,I.ok.vW,I.ok.hd,I.ok.frames,I.ok.GJ,I.ok.HR,I.ok.bs,I.ok.oX,I.ok.mF,I.ok.mG,I.ok.fU,I.ok.sI⟩,I.os,I.bare,I.base,I.loc,I.cell,I.free,I.dW,
  fun p hp=>I.pin p (by rwa [List.append_nil] at hp),I.aS,I.len⟩
theorem Ai.out {W:Value -> Shared -> Prop} {lD:List (Addr × Obj)} (ok:X.Ok) (I:Ai (X.wk (X.pn ++ pins) W) lD σ H s):Ai X pins σ H s :=
 ⟨ok,I.os,I.bare,I.base,I.loc,I.cell,I.free,I.dW,fun p hp=>I.pin p (List.mem_append_left _ hp),I.aS,I.len⟩
theorem SP.out {W:Value -> Shared -> Prop} {D:Hq} {f:Flow} {s':Shared} (ok:X.Ok) (h:SP (X.wk (X.pn ++ pins) W) [] D f s'):SP X pins D f s':=by
 cases f with
 | next=>obtain ⟨σ',H',I,q⟩ := h; exact ⟨σ',H',I.out ok,q⟩
 | brk=>obtain ⟨σ',H',I,q⟩ := h; exact ⟨σ',H',I.out ok,q⟩
 | cont=>obtain ⟨σ',H',I,q⟩ := h; exact ⟨σ',H',I.out ok,q⟩
 | ret u=>obtain ⟨v,σ',H',I,r,q⟩ := h; exact ⟨v,σ',H',I.out ok,r,q⟩
end
section
variable {X:Cx}
end
section
variable {prog:Program} {w:World} {A:Around} {R:Result -> Shared -> Prop} {I S:Addr} {fp wr:List Addr} {n:Nat} {P:Nat -> Value -> Prop} {St:Nat -> Heap -> Prop} {val:Nat -> Int}
end
section
variable {prog:Program} {w:World} {A:Around} {E:Value -> Shared -> Prop} {s:Shared} {l:Addr}
theorem Mf {id : String} {b : Builtin} {args : Args} {Q : Value -> Shared -> Prop} (hk : builtinKind id = none) (hp : plainId id = true) (hb : entryFor table id = some b) (ha : argsOk id args)
  (hc:wpAny (model prog w) A.in1 (b args) (fun fin s'=>match fin with
   | .done f=>(match (Except.ok f:Result) with | .ok (.ret v)=>Q v s' | .ok _=>False | .error e=>E e s')
   | .again c'=>c'.quiet = true /\ codeAny (model prog w) A c' (fun r s'=>match r with | .ok (.ret v)=>Q v s' | .ok _=>False | .error e=>E e s') s') E s) :
  wpAny (model prog w) A (call (.builtin id) args.pos args.kw) Q E s:=by
 refine wpAny_call (codeAny_call_builtin hp hb ?_)
 simp only [checkBuiltinCall,hk]
 cases hs:Manifest.signature? id with
 | none=>exact wpAny_pure hc
 | some sg =>
  have h2:Bind.checkArgs id sg args = pure ():=by simpa only [argsOk,hs] using ha
  have h3:(⟨args.pos,args.kw⟩ : Args) = args:=rfl
  simp only [h3,h2]
  exact wpAny_pure hc
end
section
variable {X:Cx} {p pos SU:Pos} {e d:Expr} {t:TA} {td:TE} {x:Str}
end
open PySem PySem.Spec PyProof.Rows PySem.SeqAt
def af (A:Around) (s:Shared) (x y:Value) (b:Bool):Prop := ∀ (prog:Program) (w:World) (E:Value -> Shared -> Prop) (Q:Value -> Shared -> Prop),Q (.bool b) s -> wpAny (model prog w) A (richCompare .Lt x y) Q E s
theorem gc (l b : Addr) (xs ys : Array Value) (n n2 : Nat) (dd GL : Option Addr) (sl GN : Array (Option Value)) (e : Nat -> Bool) (r : Bool) :
  Meets (Builtin.«tuple.__lt__» ⟨[.ref l,.ref b],[]⟩)
   (fun A R s=>s.heap.get? l = some { cls := .type "tuple",dict:=dd,data := .seq xs n,slots:=sl } /\ s.heap.get? b = some { cls := .type "tuple",dict:=GL,data := .seq ys n2,slots:=GN } /\
    (∀ j (h1:j < xs.size) (h2:j < ys.size),EqAt A.in1 s xs[j] ys[j] (e j)) /\ (∀ j (h1:j < xs.size) (h2:j < ys.size),(∀ i,i < j -> e i = true) -> e j = false -> af A.in1 s xs[j] ys[j] r) /\
    ((∀ j,j < min xs.size ys.size -> e j = true) -> r = decide (xs.size < ys.size)) /\ R (.ok (.ret (.bool r))) s) :=
 .of_wp fun prog w A R s h=>by
  obtain ⟨hp,g,d,tk,os⟩ := s
  obtain ⟨hl,hb,he,hf,hz,h⟩ := h
  have f2:=AutoSeq1.sub_tuple_tuple
  have hZ:(xs.toList.zip ys.toList).length = min xs.size ys.size:=by simp
  wp_walk using wpAny_loadPart' hl,wpAny_loadPart' hb,wpAny_forIn_list _ (fun rest b s'=>b.1 = none /\ s' = ⟨hp,g,d,tk,os⟩ /\ ∃ i,rest = (xs.toList.zip ys.toList).drop i /\ ∀ k,k < i -> k < min xs.size ys.size -> e k = true) _
  case turn =>
   rintro ⟨y,x⟩ rest b s' ⟨sy,rfl,i,hq,hR⟩
   have dE:i < (xs.toList.zip ys.toList).length:=by
    apply Classical.byContradiction
    intro z
    rw [List.drop_of_length_le (by omega)] at hq
    cases hq
   have h1:i < xs.size:=by omega
   have h2:i < ys.size:=by omega
   rw [List.drop_eq_getElem_cons dE] at hq
   injection hq with IU pe
   have hy:y = xs[i]:=by simpa using congrArg Prod.fst IU
   have hx:x = ys[i]:=by simpa using congrArg Prod.snd IU
   subst hy hx
   refine wpAny_bind (he i h1 h2 prog w _ _ ?_)
   cases hy:e i with
   | true =>
    wp_walk
    refine ⟨rfl,rfl,i + 1,pe,fun k hk IV=>?_⟩
    by_cases z:k = i
    ·rw [z]
     exact hy
    ·exact hR k (by omega) IV
   | false =>
    have tZ:=hf i h1 h2 (fun k hk=>hR k hk (by omega)) hy prog w
    wp_walk using tZ _ _
    exact ⟨_,rfl,h⟩
  case fin =>
   rintro ⟨b1,b2⟩ s' ⟨sy,rfl,i,hq,hR⟩
   simp only at sy
   subst sy
   have hge:min xs.size ys.size <= i:=by
    apply Classical.byContradiction
    intro z
    rw [List.drop_eq_getElem_cons (by omega)] at hq
    cases hq
   have hr:=hz fun j hj=>hR j (by omega) hj
   wp_walk
   refine ⟨_,rfl,?_⟩
   rw [hr] at h
   simpa [Builtin.Tuple.tupleCompareSizes] using h
  case h =>
   exact ⟨rfl,rfl,0,rfl,fun k hk=>absurd hk (Nat.not_lt_zero k)⟩
mutual
def R3:PyData -> PyData -> Bool
 | .int a,.int b=>decide (a < b)
 | .tuple xs,.tuple ys=>cX xs ys
 | _,_=>false
def cX:List PyData -> List PyData -> Bool
 | [],[]=>false
 | [],_ :: _=>true
 | _ :: _,[]=>false
 | x :: xs,y :: ys=>if PyData.eqv x y then cX xs ys else R3 x y
end
mutual
def Ho:PyData -> PyData -> Prop
 | .int _,.int _=>True
 | .tuple xs,.tuple ys=>fW xs ys
 | _,_=>False
def fW:List PyData -> List PyData -> Prop
 | x :: xs,y :: ys=>Ho x y /\ fW xs ys
 | _,_=>True
end
theorem Mp:∀ (xs ys:List PyData),(∀ j,j < min xs.length ys.length -> pairEq xs ys j = true) -> cX xs ys = decide (xs.length < ys.length)
 | [],[],_=>rfl
 | [],y :: ys,_=>by simp [cX]
 | x :: xs,[],_=>by simp [cX]
 | x :: xs,y :: ys,h=>by
  have h0:PyData.eqv x y = true:=h 0 (by simp only [List.length_cons]; omega)
  have ih:=Mp xs ys fun j hj=>h (j + 1) (by simp only [List.length_cons]; omega)
  rw [cX,if_pos h0,ih]
  simp
mutual
theorem Ko : ∀ (da db : PyData) (A : Around) (s : Shared) (a b : Value) (as bs : List Addr), Reads s.heap a da as -> Reads s.heap b db bs -> da.canLay0 = true -> db.canLay0 = true -> Ho da db ->
  A.units + min da.depth db.depth < cLine -> af A s a b (R3 da db)
 | .int x,db,A,s,_,_,_,_,ra,rb,_,_,hc,hu=>by
  cases db with
  | int y =>
   cases ra with
   | int _ t =>
    cases rb with
    | int _ u =>
     intro prog w E Q h
     exact richCompare_gives (op := .Lt) (typeIs_int s _ t) (typeIs_int s _ u) F.slot_int_lt F.entry_int_lt (F.args_int_lt_2 _ _) (gives_int_lt _ _ t u) (fun z=>nomatch z) h
  | none=>exact hc.elim
  | bool _=>exact hc.elim
  | str _=>exact hc.elim
  | list _=>exact hc.elim
  | tuple _=>exact hc.elim
  | dict _=>exact hc.elim
 | .tuple xs,db,A,s,_,_,_,_,ra,rb,ha,hb,hc,hu=>by
  cases db with
  | tuple ys =>
   cases ra with
   | @tuple l o vs n _ as₁ h1 h2 h3 h4 =>
    cases rb with
    | @tuple l' o' sx n' _ bs₁ k1 k2 k3 k4 =>
     obtain ⟨oc,od,UD,lG⟩ := o
     obtain ⟨oc',UE,UG,wm⟩ := o'
     simp only at h2 h3 k2 k3
     subst h2 h3 k2 k3
     have n1:vs.size = xs.length:=by simpa using ReadsAll.length _ _ _ h4
     have n2:sx.size = ys.length:=by simpa using ReadsAll.length _ _ _ k4
     intro prog w E Q h
     refine richCompare_meets_room (op := .Lt) ⟨_,h1,rfl⟩ ⟨_,k1,rfl⟩ F.slot_tuple_lt F.entry_tuple_lt (F.args_tuple_lt_2 _ _) (gc l l' vs sx n n' od UE lG wm (pairEq xs ys) (cX xs ys)) ⟨h1,k1,fun j j1 j2=>?_,fun j j1 j2 f1 f2=>?_,fun f=>?_,(fun z=>nomatch z),h⟩ (room_here hu)
     ·have:=eqAt_readsAll xs ys A.in1 s vs.toList sx.toList _ _ h4 k4 ha hb (room_in hu) j (by simpa using j1) (by simpa using j2)
      simpa using this
     ·have:=iB xs ys A.in1 s vs.toList sx.toList _ _ h4 k4 ha hb hc (room_in hu) j (by simpa using j1) (by simpa using j2) f1 f2
      simpa using this
     ·rw [n1,n2] at f ⊢
      exact Mp xs ys f
  | none=>exact hc.elim
  | bool _=>exact hc.elim
  | str _=>exact hc.elim
  | list _=>exact hc.elim
  | int _=>exact hc.elim
  | dict _=>exact hc.elim
 | .none,_,_,_,_,_,_,_,_,_,_,_,hc,_=>hc.elim
 | .bool _,_,_,_,_,_,_,_,_,_,_,_,hc,_=>hc.elim
 | .str _,_,_,_,_,_,_,_,_,_,_,_,hc,_=>hc.elim
 | .list _,_,_,_,_,_,_,_,_,_,_,_,hc,_=>hc.elim
 | .dict _,_,_,_,_,_,_,_,_,_,_,_,hc,_=>hc.elim
theorem iB : ∀ (xs ys : List PyData) (A : Around) (s : Shared) (vs ws : List Value) (as bs : List Addr), ReadsAll s.heap vs xs as -> ReadsAll s.heap ws ys bs -> PyData.canLayAll0 xs = true -> PyData.canLayAll0 ys = true -> fW xs ys ->
  A.units + min (PyData.depthAll xs) (PyData.depthAll ys) < cLine -> ∀ j (h1:j < vs.length) (h2:j < ws.length),(∀ i,i < j -> pairEq xs ys i = true) -> pairEq xs ys j = false -> af A s vs[j] ws[j] (cX xs ys)
 | [],_,_,_,_,_,_,_,ra,_,_,_,_,_,j,h1,_,_,_=>by cases ra; exact absurd h1 (Nat.not_lt_zero _)
 | _ :: _,[],_,_,_,_,_,_,_,rb,_,_,_,_,j,_,h2,_,_=>by cases rb; exact absurd h2 (Nat.not_lt_zero _)
 | x :: xs,y :: ys,A,s,_,_,_,_,ra,rb,ca,cb,hc,hu,j,h1,h2,f1,f2=>by
  cases ra with
  | cons r1 r2 =>
   cases rb with
   | cons q1 q2 =>
    have IW:x.canLay0 = true /\ PyData.canLayAll0 xs = true:=by simpa [PyData.canLayAll0] using ca
    have IX:y.canLay0 = true /\ PyData.canLayAll0 ys = true:=by simpa [PyData.canLayAll0] using cb
    have hd:A.units + min x.depth y.depth < cLine /\ A.units + min (PyData.depthAll xs) (PyData.depthAll ys) < cLine:=by
     simp only [PyData.depthAll] at hu
     omega
    cases j with
    | zero =>
     have e:cX (x :: xs) (y :: ys) = R3 x y:=by
      have f3:PyData.eqv x y = false:=f2
      rw [cX,f3]
      rfl
     rw [e]
     exact Ko x y A s _ _ _ _ r1 q1 IW.1 IX.1 hc.1 hd.1
    | succ j =>
     have e:cX (x :: xs) (y :: ys) = cX xs ys:=by
      have f3:PyData.eqv x y = true:=f1 0 (Nat.succ_pos _)
      rw [cX,f3]
      rfl
     rw [e]
     exact iB xs ys A s _ _ _ _ r2 q2 IW.2 IX.2 hc.2 hd.2 j (Nat.lt_of_succ_lt_succ h1) (Nat.lt_of_succ_lt_succ h2) (fun i hi=>f1 (i + 1) (Nat.succ_lt_succ hi)) f2
end
section
variable {X:Cx} {k:Nat}
def lv:R2:=fun x y H Q=>∃ d e:PyData,Rp H d x /\ Rp H e y /\ Ho d e /\ d.depth <= 60 /\ Q (.bl (R3 d e)) H
theorem dk (hr:Cb k X.A):G6 X (compareOp .Lt) lv:=by
 intro pins s σ H x y v u Q I rx ry h
 obtain ⟨d,e,h1,h2,hc,hd,q⟩ := h
 obtain ⟨as,q1⟩ := Cj I d x v h1 rx
 obtain ⟨bs,q2⟩ := Cj I e y u h2 ry
 have hu:=hr.units
 exact Ko d e X.A s v u as bs q1 q2 (Cw d x h1) (Cw e y h2) hc (by omega) _ _ _ _ ⟨.bl (R3 d e),H,I,rfl,q⟩
end
section
variable {X:Cx}
def iw (K:PySem.W.Frag):R2:=fun x y H Q=>∃ a b xs ys,x = .ref a /\ y = .ref b /\ Bw K H a xs /\ H b = some (.tup ys) /\ ys ≠ [] /\ xs.length + ys.length <= sizeLine /\
 ∀ p H',A6 H H' -> H' p = some (.tup (xs ++ ys)) -> Q (.ref p) H'
theorem Z8 (K:PySem.W.Frag) (hK:X.K = K:=by rfl):G6 X (binaryOp .Add) (iw K):=by
 subst hK
 intro pins s σ H x y v u Q I rx ry h
 obtain ⟨a,b,xs,ys,rfl,rfl,ha,hb,hy,hz,q⟩ := h
 by_cases hx:xs = []
 ·subst hx
  cases rx
  cases ry
  obtain ⟨aU,r1,p1,_⟩ := I.tuple ha
  obtain ⟨iR,r2,p2,_⟩ := I.tuple (Bw.of hb)
  cases r1
  obtain ⟨⟨c1,d1,t1,l1⟩,ho,hc,n,hd⟩ := p1
  obtain ⟨⟨c2,d2,t2,l2⟩,w4,sP,n2,hd2⟩ := p2
  simp only at hc hd sP hd2
  subst hc hd sP hd2
  exact concat_meets ⟨_,ho,rfl⟩ ⟨_,w4,rfl⟩ noFill_tuple_add seq_tuple_add PySem.F.slot_tuple_add PySem.F.entry_tuple_add (PySem.F.args_tuple_add_2 _ _) (tuple_addW0 a b _ _ n n2 d1 d2 l1 l2 rfl) ⟨ho,w4,.ref b,H,I,rfl,q b H (A6.refl H) hb⟩
 ·exact Z9 pins s σ H _ _ v u Q I rx ry ⟨a,b,xs,ys,rfl,rfl,ha,Bw.of hb,hx,hz,fun e=>absurd e hy,fun _ p hp=>q p _ (A6.upd hp) A1⟩
end
section
variable {prog:Program} {w:World} {A:Around} {E:Value -> Shared -> Prop} {s:Shared}
end
section
variable {prog:Program} {w:World} {A:Around} {E:Value -> Shared -> Prop} {s:Shared}
end
section
variable {X:Cx} {tg:Expr}
end
section
variable {P:Program} {w:World} {A:Around} {E:Value -> Shared -> Prop} {s:Shared}
end
section
variable {X:Cx}
end
theorem Pm:∀ {bs:List Bool} {us:List Value},B2 (bs.map V.bl) us -> LSm.BoolsAre us bs
 | [],_,.nil=>.nil
 | b :: bs,_,.cons r rs=>by
  cases r
  exact .cons b (Pm rs)
section
variable {X:Cx}
theorem Ma (hc:X.calm = true):D2 X (.builtin "all") (fun xs H Q=>∃ (p:Addr) (bs:List Bool),xs = [.ref p] /\ B5 X.K H p (bs.map V.bl) /\ Q (.bl (bs.all id)) H):=by
 intro pins s σ H vs us Q I r q
 obtain ⟨p,bs,rfl,hq,q⟩ := q
 obtain ⟨u,rfl,rx⟩ := Ff r
 cases rx
 obtain ⟨aU,rv,pl,hz⟩ := I.list hq
 have hb:=Pm rv
 have hl:=pl.isList
 have dE:p < s.heap.objs.size:=by
  obtain ⟨_,e,_⟩ := hl
  exact Heap.lt_size e
 refine call_all_walk (wpAny_pyIter_list hl ⟨s.heap.objs.size,[s.heap.objs.size,p],[s.heap.objs.size],aU.toArray.size,_,_,fun i=>(bs[i]?).getD true,rfl,Walks.list (prog:=X.prog) (w:=X.w) (A:=X.A.in1) (I.ok.hd hc) _ p (Nat.ne_of_lt dE) aU.toArray,⟨⟨_,Heap.get?_push_size _ rfl,rfl,rfl⟩,hl.push _⟩,fun i v s' Q' E' hP hQ=>?_,fun g' tk hk=>?_⟩)
 ·obtain ⟨b,e,rfl⟩ := hb.get i v (by simpa using hP)
  simp only [e,Option.getD_some] at hQ
  exact wpAny_truthy_bool hQ
 ·refine ⟨.bl _,H,I.kept (LSm.kept_iter hk),?_,q⟩
  rw [<- LSm.range_all bs,<- hb.length]
  simp
  rfl
end
section
variable {prog:Program} {w:World} {A:Around} {E:Value -> Shared -> Prop} {I:Addr} {fp wr:List Addr} {St:Nat -> Heap -> Prop} {items:Array Value}
end
section
variable {X:Cx} {pos:Pos}
end
open PySem.W (Looks)
theorem M4 {M:Model} {h:Heap}:Looks M h (isSubtype (.type "type") (.type "tuple")) false:=by
 have e:isSubtype (.type "type") (.type "tuple") = pure false:=by first | exact tc_notTuple | rfl | decide
 rw [e]
 exact PySem.W.Looks.now
theorem Vp {M : Model} {K : PySem.W.Frag} {h : Heap} {a C Y : Addr} {oe : Obj} (eO : K.In h) (he : h.get? a = some oe) (hc : oe.cls = .ref C) (hY : Nv K Y)
  (hb:PySem.W.subIn K (.ref Y) (.type "BaseException") = some true) (hs:PySem.W.subIn K (.ref C) (.ref Y) = some true):Looks M h (excMatches (.ref a) (.ref Y)) true:=by
 obtain ⟨bm,N,nm,qn,bs',hd,sn,sub,ab,col,dd,z0,z1,z2,z3,z5,mN,hCY,_,_,_⟩ := Te eO hY
 have t1:Looks M h (typeOf (.ref Y)) (.type "type"):=(PySem.W.Looks.ld hCY).andThen .now
 have i1:Looks M h (isInstance (.ref Y) (.type "tuple")) false:=t1.andThen M4
 have i3:Looks M h (typeOf (.ref a)) (.ref C):=by
  have z:Looks M h (typeOf (.ref a)) oe.cls:=(PySem.W.Looks.ld he).andThen .now
  rw [hc] at z
  exact z
 unfold excMatches
 refine i1.andThen ?_
 rw [if_neg Bool.false_ne_true]
 refine PySem.W.Looks.now.andThen ?_
 simp only [List.forIn_cons,List.forIn_nil]
 refine Looks.andThen (a:=PUnit.unit) (Looks.andThen (a:=ForInStep.yield PUnit.unit) ((ba eO hb).andThen ?_) .now) (i3.andThen (Looks.andThen (a:=(some true,())) (Looks.andThen (a:=ForInStep.done (some true,())) ((PySem.W.looks_subIn eO hs).andThen ?_) .now) .now))
 ·rw [if_neg (by decide)]
  exact .now
 ·rw [if_pos rfl]
  exact .now
section
variable {prog:Program} {w:World} {A:Around} {E:Value -> Shared -> Prop} {K:PySem.W.Frag} {x C:Addr} {h:Heap} {g:Array GenState} {d:Drawn} {t:Nat} {os:OsState}
structure R5 (K:PySem.W.Frag) (C:Addr):Prop where
 ga:PySem.W.findIn K (.ref C) "__getattribute__" = some (some (.builtin "BaseException.__getattribute__"))
 gt:PySem.W.findIn K (.ref C) "__getattr__" = some none
 cl:PySem.W.findIn K (.ref C) "__class__" = some (some (.builtin "object.__class__"))
 gs:PySem.W.specialIn K (.builtin "object.__class__") "__get__" = some (some (.builtin "getset_descriptor.__get__"))
 tk:PySem.W.takesIn K (.builtin "object.__class__") = some true
 ob:PySem.W.mroIn K C (.type "object") = some true
 be:PySem.W.subIn K (.ref C) (.type "BaseException") = some true
theorem Wl {M:Model} (eO:K.In h) (F:R5 K C):Looks M h (Builtin.ObjectAttr.find (.ref x) (.ref C) "__class__") (.bind (.builtin "getset_descriptor.__get__") (.builtin "object.__class__")):=by
 unfold Builtin.ObjectAttr.find
 refine (PySem.W.looks_findIn eO F.cl).andThen ((PySem.W.looks_specialIn eO F.gs).andThen ?_)
 refine Looks.andThen (a:=some (.builtin "getset_descriptor.__get__",.builtin "object.__class__")) ?_ (PySem.W.Looks.tag .now)
 show Looks M h (Builtin.ObjectAttr.takesStores _ >>= _) _
 refine (PySem.W.looks_takesIn eO F.tk).andThen ?_
 rw [if_pos rfl]
 exact .now
theorem Wk {R : Result -> Shared -> Prop} {tp : Value} (eO : K.In h) (ht : ∀ M, Looks M h (typeOf (.ref x)) (.ref C)) (F : R5 K C) (q : R (.ok (.ret (.ref C))) ⟨h, g, d, t, os⟩) :
  codeAny (model prog w) A (.call (.builtin "getset_descriptor.__get__") ⟨[.builtin "object.__class__",.ref x,tp],[]⟩) R ⟨h,g,d,t,os⟩ := by
 have L0:=ht (model prog w)
 have L1:=PySem.W.looks_mroIn (M:=model prog w) eO F.ob
 refine codeAny_call_builtin PySem.W.KF.slot_gs.plain PySem.W.KF.entry_gs (PySem.W.KF.slot_gs.check _ _ _ _ _ _ _ _ PySem.W.KF.type_class (PySem.W.KF.args_gs _ _ _) ?_)
 unfold Builtin.«getset_descriptor.__get__» Builtin.Getset_descriptor.descrGet; rw [PySem.W.dga_obj]
 refine wpAny_bind (wpAny_pure ?_)
 unfold Builtin.Getset_descriptor.descrGetter Builtin.Getset_descriptor.descrCheckInstance Builtin.Getset_descriptor.descrNameAndClass isInstance; simp only [PySem.W.KF.owner_class]; repeat lk
 refine ⟨Code.quiet_builtin _ (by decide +kernel),codeAny_builtin PySem.W.KF.entry_class ?_⟩
 unfold Builtin.«object.__class__» shownTypeOf; repeat lk
 exact q
theorem Ul {Q : Fin -> Shared -> Prop} {tk : Tok} (eO : K.In h) (ht : ∀ M, Looks M h (typeOf (.ref x)) (.ref C)) (F : R5 K C) (q : Q (.done (.ret (.ref C))) ⟨h, g, d, t, os⟩) :
  wpAny (model prog w) A (Builtin.«object.__getattribute__» ⟨[.ref x,.str "__class__" tk],[]⟩) Q E ⟨h,g,d,t,os⟩ := by
 have L0:=ht (model prog w)
 have L1:=Wl (M:=model prog w) (x:=x) eO F
 repeat (any_goals (first | assumption | with_reducible refine Looks.at (by assumption) ?_ | wp_step))
 refine Wk eO ht F ?_
 repeat (any_goals (first | assumption | wp_step))
theorem Uk {R : Result -> Shared -> Prop} {tk : Tok} (eO : K.In h) (ht : ∀ M, Looks M h (typeOf (.ref x)) (.ref C)) (F : R5 K C) (q : R (.ok (.ret (.ref C))) ⟨h, g, d, t, os⟩) :
  codeAny (model prog w) A (.call (.builtin "BaseException.__getattribute__") ⟨[.ref x,.str "__class__" tk],[]⟩) R ⟨h,g,d,t,os⟩ := by
 have L0:=ht (model prog w)
 have L1:=PySem.W.looks_subIn (M:=model prog w) eO F.be
 have k1:builtinKind "BaseException.__getattribute__" = some .slot:=by decide +kernel
 have k2:splitId "BaseException.__getattribute__" = some ("BaseException","__getattribute__"):=by decide +kernel
 have k3:=PySem.F.args_bexc_ga (.ref x) (.str "__class__" tk)
 refine codeAny_call_builtin PySem.F.attr_ValueError.ga.plain PySem.F.entry_bexc_ga ?_
 simp only [checkBuiltinCall,k1,k2]
 unfold isInstance
 repeat (any_goals (first | assumption | with_reducible refine Ul eO ht F ?_ | with_reducible refine Looks.at (by assumption) ?_ | wp_step))
theorem Wj {Q : Option Value -> Shared -> Prop} (eO : K.In h) (ht : ∀ M, Looks M h (typeOf (.ref x)) (.ref C)) (F : R5 K C) (q : Q (some (.ref C)) ⟨h, g, d, t + 1, os⟩) :
  wpAny (model prog w) A (getAttr? (.ref x) "__class__") Q E ⟨h,g,d,t,os⟩ := by
 have L0:=ht (model prog w)
 have L1:=PySem.W.looks_findIn (M:=model prog w) eO F.ga
 have L2:=PySem.W.looks_findIn (M:=model prog w) eO F.gt
 have b1:=PySem.F.attr_ValueError.ga.bind (.ref x)
 have b2:(Value.builtin "BaseException.__getattribute__" == Value.builtin "object.__getattribute__") = false:=by decide +kernel
 have b3:(onTheHeap (Value.ref C) && Value.builtin "BaseException.__getattribute__" == Value.builtin "object.__getattribute__") = false:=by rw [b2]; rfl
 unfold getAttr? getAttrBy?
 repeat (any_goals (first | assumption | with_reducible refine Looks.at (by assumption) ?_ | wp_step))
 refine Uk eO ht F ?_
 repeat (any_goals (first | assumption | wp_step))
theorem Wt {s : Shared} {c : Value} {b : Bool} {Q : Value -> Shared -> Prop} (eO : K.In s.heap) (ht : ∀ M, Looks M s.heap (typeOf (.ref x)) (.ref C)) (F : R5 K C) (e : PySem.W.kitOne K (.ref C) c = some b)
  (q:∀ tk,Q (.bool b) { s with toks:=tk }):wpAny (model prog w) A (call (.builtin "isinstance") [.ref x,c]) Q E s:=by
 cases b with
 | true=>exact Yw eO ht e (fun z=>nomatch z) (q s.toks)
 | false =>
  refine call_isinstance (S:=fun _ R s=>(K.In s.heap /\ ∀ M,Looks M s.heap (typeOf (.ref x)) (.ref C)) /\ ∀ tk,R (.ok (.ret (.bool false))) { s with toks:=tk }) (fun prog w A R s hs=>isinstance_outer ?_ (fun z=>nomatch z)) ⟨⟨eO,ht⟩,q⟩
  obtain ⟨⟨eO,ht⟩,hq⟩ := hs
  obtain ⟨h0,g,d,tt,os⟩ := s
  unfold Builtin.«isinstance.nested»
  refine wpAny_bind ((ht _).at ?_)
  unfold PySem.W.kitOne at e
  by_cases z:(Value.ref C == c) = true
  ·rw [if_pos z] at e
   cases e
  rw [if_neg z] at e ⊢
  obtain ⟨k1,k2,k3⟩ := PySem.W.kit_cls (M:=model prog w) eO e
  have k4:Looks (model prog w) h0 (isInstance (.ref x) c) false:=(ht _).andThen k3
  have k5:=Ws (M:=model prog w) eO F.be
  refine wpAny_bind (k1.at ?_)
  rw [if_pos (by decide)]
  k_delta "plainIsInstance"
  refine wpAny_bind (wpAny_bind (k2.at ?_))
  simp only [Bool.not_true,if_false,Bool.false_eq_true]
  refine wpAny_bind (k4.at ?_)
  simp only [if_false,Bool.false_eq_true]
  refine wpAny_bind (Wj eO ht F ?_)
  refine wpAny_bind (k5.at ?_)
  simp only [if_false,Bool.false_eq_true,Bool.not_true]
  refine wpAny_bind (wpAny_rule (k3.at ?_))
  first
   | exact wpAny_pure (hq _)
   | exact wpAny_pure (wpAny_pure (hq _))
end
section
variable {X:Cx}
def j0 (K:PySem.W.Frag):List V -> Hp -> VK -> Prop:=fun xs H Q=>∃ (a C:Addr) (c:Value) (v:V) (b:Bool),xs = [.ref a,v] /\ H a = some (.ext (Bs a (.ref C))) /\ (∀ u,B4 v u -> u = c) /\ R5 K C /\ PySem.W.kitOne K (.ref C) c = some b /\ Q (.bl b) H
theorem Bx (K:PySem.W.Frag) (hK:X.K = K:=by rfl):D2 X (.builtin "isinstance") (j0 K):=by
 subst hK
 intro pins s σ H xs us Q I r h
 obtain ⟨a,C,c,v,b,rfl,ha,hv,F,e,q⟩ := h
 obtain ⟨u0,u1,rfl,r0,r1⟩ := B2.two r
 cases r0
 rw [hv u1 r1]
 obtain ⟨o,vs,e1,e2,_⟩ := (I.aS a _ ha).1
 refine Wt (s:=s) I.fQ (fun M=>?_) F e fun tk=>⟨.bl b,H,I.kept fun _ _ z=>z,rfl,q⟩
 have z:Looks M s.heap (typeOf (.ref a)) o.cls:=(PySem.W.Looks.ld e1).andThen .now
 rw [e2] at z
 exact z
end
open PySem.W (Looks)
section
variable {X:Cx}
def ms (K:PySem.W.Frag) (tu:TS) (Y:Addr) (i:Nat) (D:Hq):St -> XK -> Prop:=fun σ1 E=>∀ cls H',E cls none H' -> ∃ C,cls = .ref C /\ PySem.W.subIn K (.ref C) (.ref Y) = some true /\ ∀ a,H' a = some (.ext (Bs a (.ref C))) ->
 tu { nx:=fun σ' H4=>D.nx (σ'.set i none) H4,rt:=fun _ _=>False } (σ1.set i (some (.ref a))) H'
def jz (K:PySem.W.Frag) (tb:(St -> XK -> Prop) -> TS) (tu:TS) (Y:Addr) (i:Nat):TS:=fun D σ H=>tb (ms K tu Y i D) D σ H
theorem Zc (K : PySem.W.Frag) {Y : Addr} {body : List Stmt} {p2 pos np : Pos} {c₀ : Stmt} {ss : List Stmt} {x n : Str} {i : Nat} {tb : (St -> XK -> Prop) -> TS} {tu : TS}
  (kZ:X.stack = X.env :: X.outer) (hf:X.env.frame = some X.env.locals)
  (hb:∀ (W:Value -> Shared -> Prop) (pn:List (Addr × Obj)) (R:St -> XK -> Prop),Pg (X.wk pn W) R -> M5 (X.wk pn W) body (tb R))
  (hg:Gl X x) (hm:X.mg x = some (.ref Y)) (hY:Nv K Y) (hB:PySem.W.subIn K (.ref Y) (.type "BaseException") = some true) (hN:X.N.Nodup) (hi:X.N[i]? = some n) (hl:X.env.scope.names.lookup n = some .local)
  (hu:∀ A:Around,M5 (X.at A) (c₀ :: ss) tu) (hK:X.K = K:=by rfl) (mE:(x == ("__debug__" : Str)) = false:=by decide) :
  PS X (.Try body [.ExceptHandler (some (.Name x np)) (some n) (c₀ :: ss) p2] [] [] pos) (jz K tb tu Y i):=by
 subst hK
 intro pins s σ H D I h
 refine wpAny_Try_except ?_
 have ok:=I.ok
 refine wpAny_mono (hb _ (X.pn ++ pins) _ ?_ [] s σ H D I.wk h) (fun f s1 q=>?_) fun e s1 z=>z
 ·rintro lD σ1 H1 s1 e s2 E hR I1 ⟨a,T,cls,H',rfl,os,bare,F,hE⟩
  obtain ⟨C,rfl,p9,hs⟩ := hR _ _ hE
  have I0:Ai X pins σ1 H1 s1:=I1.out ok
  have F:T8 X.prog X.w (gR X.stack) H1 s1.heap H' s2.heap a T (.ref C):=F
  have I2:=I0.lK os bare F
  obtain ⟨a0,tr⟩ := F.mO (B:=PySem.W.hideAll s2.heap (gR X.stack ++ a :: [T])) (Kj (List.mem_singleton.mpr rfl))
  have hA:X.A.frames = some (X.env :: X.outer):=by rw [<- kZ]; exact ok.frames
  have hF:s2.heap.FunFrames (PySem.W.hideAll s2.heap (gR X.stack ++ a :: [T])) (X.env :: X.outer):=by rw [<- kZ]; exact Tk I2
  refine wpAny_looks_onW hA hf ⟨fun b o q=>PySem.W.of_hideAll _ q,Gr,hF,tr⟩ fun h3 held sm3=>?_
  refine wpAny_landsW held fun h5 fly sm4=>?_
  obtain ⟨k1,_,_,k4⟩ := fly
  obtain ⟨T2,F5⟩ := T8.on F.un F.ok F.exc I2.fI I2.su (fun b hb=>by rw [List.mem_singleton.mp hb]; exact ⟨F.off,F.new⟩) k1 (sm3.trans sm4) k4
  have I5:Ai X pins σ1 H' { s2 with heap:=h5 }:=I0.lK os bare F5
  obtain ⟨o5,vs5,e5,c5,d5⟩ := F5.cls
  refine wpAny_handleBy_cons (codeAny_handlers_test (Calls.Name_function_global ok.kind hg (Calls.loadGlobal_global (by rw [ok.glob]; exact I5.mod.glob.keeps I5.bk) hm ?_) mE)) (by intro q; cases q)
  refine (Vp I5.fQ e5 c5 hY hB p9).at ?_
  show codeAny _ _ (.handlers _ [_] _) _ _
  refine codeAny_handlers_suite_as ?_
  obtain ⟨a5,tr5⟩ := F5.mO (B:=PySem.W.hideAll h5 (gR X.stack ++ a :: [T2])) (Kj (List.mem_singleton.mpr rfl))
  have hF5:h5.FunFrames (PySem.W.hideAll h5 (gR X.stack ++ a :: [T2])) (X.env :: X.outer):=by rw [<- kZ]; exact Tk I5
  refine lands_againW (show Heap.FlyingW _ (X.env :: X.outer) a (.ref C) a5 h5 from ⟨fun b o q=>PySem.W.of_hideAll _ q,Gr,hF5,tr5⟩) fun h6 UH sm6=>?_
  obtain ⟨k6,_,_,k7⟩ := UH
  obtain ⟨T3,F6⟩ := T8.on F5.un F5.ok F5.exc I5.fI I5.su (fun b hb=>by rw [List.mem_singleton.mp hb]; exact ⟨F5.off,F5.new⟩) k6 sm6 k7
  have I6:Ai X pins σ1 H' { s2 with heap:=h6 }:=I0.lK os bare F6
  refine Lr (v := .ref a) I6 hN hi (.inl hl) rfl (fun s7 I7=>?_) (.inr hl)
  refine wpAny_mono (hu _ pins s7 _ H' _ (I7.at rfl) (hs a F.exc)) (fun f s8 q8=>?_) fun _ _ z=>z.elim
  cases f with
  | next =>
   obtain ⟨σ',H4,I8,q9⟩ := q8
   exact Yq (I8.back ok) hN hi hl fun s9 I9=>⟨_,_,I9,q9⟩
  | brk =>
   obtain ⟨_,_,_,z⟩ := q8
   exact z.elim
  | cont =>
   obtain ⟨_,_,_,z⟩ := q8
   exact z.elim
  | ret u =>
   obtain ⟨_,_,_,_,_,z⟩ := q8
   exact z.elim
 ·cases f with
  | next=>exact wpAny_execs_nil (SP.out ok q)
  | brk=>exact SP.out ok q
  | cont=>exact SP.out ok q
  | ret u=>exact SP.out ok q
end
section
variable {X:Cx}
end
section
variable {prog:Program} {w:World} {A:Around} {E:Value -> Shared -> Prop} {s:Shared} {l:Addr} {xs:Array (Int × Tok)}
theorem Q9 {Q : Value -> Shared -> Prop} (hl : s.heap.IsTuple l (intItems xs))
  (h:∀ s₂:Shared,s₂ = { s with heap:=s.heap.push { cls := .type "tuple_iterator",data := .fields #[.ref l,.int 0 0] } } ->
   (s₂.heap.IsTupleIter s.heap.objs.size l 0 /\ s₂.heap.IsTuple l (intItems xs)) -> (∀ b ∈ [s.heap.objs.size,l],b < s₂.heap.objs.size) -> l ≠ s.heap.objs.size -> Q (.ref s.heap.objs.size) s₂) :
  wpAny (model prog w) A (pyIter (.ref l)) Q E s:=by
 have dE:l < s.heap.objs.size:=by obtain ⟨_,e,_⟩ := hl; exact Heap.lt_size e
 refine wpAny_pyIter_tuple hl (h _ rfl ⟨⟨_,Heap.get?_push_size _ rfl,rfl,rfl⟩,?_⟩ (fun b hb=>?_) (Nat.ne_of_lt dE))
 ·exact hl.at fun o e=>Heap.get?_push_of_some _ e
 show b < (s.heap.push _).objs.size
 rw [Heap.size_push]
 rcases List.mem_cons.mp hb with rfl | hb
 ·exact Nat.lt_succ_self _
 ·rcases List.mem_cons.mp hb with rfl | hb
  ·exact Nat.lt_succ_of_lt dE
  ·cases hb
theorem V2 {h' : Heap} (hk : ∀ b o, b ∉ [s.heap.objs.size] -> (s.heap.push { cls := .type "tuple_iterator", data := .fields #[.ref l, .int 0 0] }).get? b = some o -> h'.get? b = some o) :
  ∀ b o,s.heap.get? b = some o -> h'.get? b = some o:=fun b o e=>by
 refine hk b o (fun hm=>?_) (Heap.get?_push_of_some _ e)
 rcases List.mem_cons.mp hm with e1 | hm
 ·exact absurd (e1 ▸ Heap.lt_size e) (Nat.lt_irrefl _)
 ·cases hm
theorem Rr {Q : Value -> Shared -> Prop} (hh : A.handled = none) (hl : s.heap.IsTuple l (intItems xs)) (eZ : 0 < xs.size)
  (h:∀ v h' tk,(intItems xs)[argBest (fun i j=>decide (numAt xs i < numAt xs j)) (xs.size - 1)]? = some v -> (∀ b o,s.heap.get? b = some o -> h'.get? b = some o) -> Q v { s with heap:=h',toks:=tk }) :
  wpAny (model prog w) A (call (.builtin "min") [.ref l]) Q E s:=by
 refine call_min_walk (Q9 hl fun s₂ e st GQ hlI=>?_)
 subst e
 refine ⟨_,_,_,_,_,_,_,rfl,Walks.tuple (A:=A.in1) hh _ l hlI (intItems xs),st,GQ,by simpa [intItems] using eZ,CmpOf.ints_lt (numAt xs) (fun _ _=>intItems_at),fun v h' tk hP hk=>?_⟩
 exact h v h' tk (by simpa [intItems] using hP) (V2 hk)
end
section
variable {X:Cx}
theorem Ub (hc:X.calm = true):D2 X (.builtin "min") (fun xs H Q=>∃ (p:Addr) (ns:List Int),xs = [.ref p] /\ Bw X.K H p (ns.map V.int) /\ 0 < ns.length /\ ∀ m:Int,m ∈ ns -> (∀ a ∈ ns,m <= a) -> Q (.int m) H):=by
 intro pins s σ H vs us Q I r q
 obtain ⟨p,ns,rfl,hq,eZ,q⟩ := q
 obtain ⟨u,rfl,rx⟩ := Ff r
 cases rx
 obtain ⟨aU,rv,pl,hz⟩ := I.tuple hq
 have hi:=Kk rv
 obtain ⟨ys,ey⟩ := hi.allInts.items
 have sr:ns = ys.toList.map (·.1):=by
  have e1:=hi.numsOf
  have e2:=nums_intItems ys
  rw [<- ey] at e2
  exact e1.symm.trans e2
 have hsz:0 < ys.size:=by
  rw [sr,List.length_map,Array.length_toList] at eZ
  exact eZ
 have hl:s.heap.IsTuple p aU.toArray:=pl
 rw [ey] at hl
 refine Rr (I.ok.hd hc) hl hsz fun v g' tk hv hk=>?_
 obtain ⟨t,rfl⟩ := intItems_at hv
 obtain ⟨b1,b2⟩ := argBest_lt (numAt ys) (ys.size - 1)
 refine ⟨.int _,H,I.kept hk,⟨t,rfl⟩,q _ ?_ fun a ha=>?_⟩
 ·rw [sr,numAt_eq]
  exact getD_mem (by rw [List.length_map,Array.length_toList]; omega)
 ·rw [sr] at ha
  obtain ⟨j,hj,rfl⟩ := mem_getD ha
  rw [List.length_map,Array.length_toList] at hj
  rw [<- numAt_eq]
  exact b2 j (by omega)
theorem Hs (K:PySem.W.Frag) (hc:X.calm = true) (hK:X.K = K:=by rfl):D2 X (.builtin "min") (fun xs H Q=>∃ (p:Addr) (ns:List Int),xs = [.ref p] /\ (B5 K H p (ns.map V.int) \/ Bw K H p (ns.map V.int)) /\ 0 < ns.length /\ ∀ m:Int,m ∈ ns -> (∀ a ∈ ns,m <= a) -> Q (.int m) H):=by
 subst hK
 intro pins s σ H vs us Q I r q
 obtain ⟨p,ns,rfl,hq | hq,eZ,q⟩ := q
 ·exact Ua hc pins s σ H _ us Q I r ⟨p,ns,rfl,hq,eZ,q⟩
 ·exact Ub hc pins s σ H _ us Q I r ⟨p,ns,rfl,hq,eZ,q⟩
end
section
variable {X:Cx}
end
section
variable {X:Cx} {C:Addr} {x:Str} {p pos:Pos}
end
theorem Po {fr : List Nat} {tt : TT} {te : TE} {σ : St} {D : Addr} {H1 : Hp} {Q : Hp -> Prop} {lo : Int} {cnt : Nat} (Pv : Nat -> List V -> Hp -> Prop) (h0 : Pv 0 [] (upd H1 D (.lst [])))
  (hs:∀ i ys H,i < cnt -> Pv i ys H -> tt (some (.int (lo + i)) :: Cz fr σ) H fun b H4 =>
   if b = true then te (some (.int (lo + i)) :: Cz fr σ) H4 fun v H5=>H5 D = some (.lst ys) /\ ys.length < sizeLine /\ Pv (i + 1) (ys ++ [v]) (upd H5 D (.lst (ys ++ [v]))) else Pv (i + 1) ys H4)
  (mt:∀ σ H Q Q',(∀ b H',Q b H' -> Q' b H') -> tt σ H Q -> tt σ H Q') (me:∀ σ H Q Q',(∀ v H',Q v H' -> Q' v H') -> te σ H Q -> te σ H Q')
  (hd:∀ ys H,Pv cnt ys H -> Q H):Di 1 fr (Yh lo cnt) (Gq 0) tt te σ D H1 Q:=by
 refine ⟨fun i m ys H=>m = cnt - i /\ i <= cnt /\ Pv i ys H,⟨cnt,by simp,Nat.zero_le _,h0⟩,?_⟩
 rintro i m ys H' ⟨rfl,hi,p⟩
 by_cases dE:i < cnt
 ·refine .inr ⟨dE,fun x H2 y=>?_⟩
  obtain ⟨e,y⟩ := y
  subst e y
  refine ⟨⟨[some (.int (lo + i))],rfl,rfl⟩,?_⟩
  refine mt _ _ _ _ ?_ (hs i ys _ dE p)
  intro b H4 q
  cases b with
  | false=>exact ⟨cnt - (i + 1),by omega,rfl,dE,q⟩
  | true=>exact me _ _ _ _ (fun v H5 ⟨r1,r2,r3⟩=>⟨r1,r2,cnt - (i + 1),by omega,rfl,dE,r3⟩) q
 ·have e:i = cnt:=by omega
  subst e
  exact .inl ⟨Nat.le_refl _,hd ys H' p⟩
section
variable {K:PySem.W.Frag} {x C:Addr}
end
section
variable {X:Cx}
end
section
variable {X:Cx}
end
section
variable {X:Cx}
end
section
variable {X:Cx} {tg:Expr}
end
section
variable {κ:Type} [DecidableEq κ]
def Ao (kvs:List (κ × V)) (k:κ):Option V:=(kvs.find? fun kv=>decide (kv.1 = k)).map (·.2)
def C8 (kvs:List (κ × V)) (k:κ) (v:V):List (κ × V) :=
 if (kvs.any fun kv=>decide (kv.1 = k)) = true then kvs.map (fun kv=>if kv.1 = k then (kv.1,v) else kv) else kvs ++ [(k,v)]
def Bm (kvs:List (κ × V)) (k:κ):List (κ × V):=kvs.filter fun kv=>decide (kv.1 ≠ k)
theorem Bp {p:κ × V} {r:List (κ × V)} {k:κ} (e:p.1 = k):Ao (p :: r) k = some p.2:=by simp [Ao,List.find?_cons,e]
theorem Bo {p:κ × V} {r:List (κ × V)} {k:κ} (e:¬ p.1 = k):Ao (p :: r) k = Ao r k:=by simp [Ao,List.find?_cons,e]
theorem E7 (k:κ):∀ kvs:List (κ × V),(kvs.any fun kv=>decide (kv.1 = k)) = (Ao kvs k).isSome
 | []=>rfl
 | p :: r=>by
  rw [List.any_cons]
  by_cases e:p.1 = k
  ·simp only [Bp e,decide_eq_true e,Bool.true_or,Option.isSome_some]
  ·rw [Bo e,decide_eq_false e,Bool.false_or]; exact E7 k r
theorem R0 (k j:κ) (y:V):∀ kvs:List (κ × V),Ao (kvs.map fun kv=>if kv.1 = k then (kv.1,y) else kv) j = (Ao kvs j).map fun x=>if j = k then y else x
 | []=>rfl
 | p :: r=>by
  have ih:=R0 k j y r
  rw [List.map_cons]
  by_cases h:p.1 = k
  ·rw [if_pos h]
   by_cases e:p.1 = j
   ·rw [Bp (p:=(p.1,y)) e,Bp e,Option.map_some,if_pos (e.symm.trans h)]
   ·rw [Bo (p:=(p.1,y)) e,Bo e,ih]
  ·rw [if_neg h]
   by_cases e:p.1 = j
   ·rw [Bp (p:=p) e,Bp e,Option.map_some,if_neg (fun z=>h (e.trans z))]
   ·rw [Bo (p:=p) e,Bo e,ih]
theorem Nr (k j:κ) (y:V):∀ kvs:List (κ × V),Ao kvs k = none -> Ao (kvs ++ [(k,y)]) j = if j = k then some y else Ao kvs j
 | [],_=>by
  by_cases e:k = j
  ·rw [if_pos e.symm]; exact Bp (p:=(k,y)) e
  ·rw [if_neg (fun z=>e z.symm)]; exact Bo (p:=(k,y)) e
 | p :: r,hn=>by
  rw [List.cons_append]
  have hk:¬ p.1 = k:=fun z=>by rw [Bp z] at hn; cases hn
  rw [Bo hk] at hn
  have ih:=Nr k j y r hn
  by_cases e:p.1 = j
  ·rw [Bp e,Bp e,if_neg (fun z=>hk (e.trans z))]
  ·rw [Bo e,Bo e,ih]
theorem Hl (kvs:List (κ × V)) (k j:κ) (y:V):Ao (C8 kvs k y) j = if j = k then some y else Ao kvs j:=by
 unfold C8
 by_cases a:(kvs.any fun kv=>decide (kv.1 = k)) = true
 ·rw [if_pos a,R0]
  rw [E7] at a
  by_cases e:j = k
  ·obtain ⟨x,hx⟩ := Option.isSome_iff_exists.mp a
   rw [if_pos e,e,hx,Option.map_some,if_pos rfl]
  ·rw [if_neg e]
   cases Ao kvs j with
   | none=>rfl
   | some x=>rw [Option.map_some,if_neg e]
 ·rw [if_neg a]
  refine Nr k j y kvs ?_
  rw [E7] at a
  cases q:Ao kvs k with
  | none=>rfl
  | some x=>rw [q] at a; exact (a rfl).elim
theorem Dm (kvs:List (κ × V)) (k:κ) (v:V):(C8 kvs k v).length <= kvs.length + 1:=by
 unfold C8
 split
 ·rw [List.length_map]; omega
 ·rw [List.length_append,List.length_cons,List.length_nil]; omega
theorem Hf {kvs:List (κ × V)} {k:κ} (v:V) (h:Ao kvs k = none):C8 kvs k v = kvs ++ [(k,v)]:=by
 unfold C8
 rw [E7,h]
 exact if_neg (by decide)
theorem Ey.gT {o:Option V} {u:Option Value} (r:Ey o u):o.isSome = u.isSome:=by
 cases o with
 | none=>cases u with
  | none=>rfl
  | some _=>exact (show False from r).elim
 | some _=>cases u with
  | none=>exact (show False from r).elim
  | some _=>rfl
theorem Ey.getD {o:Option V} {u:Option Value} {d:V} {d':Value} (r:Ey o u) (rd:B4 d d'):B4 (o.getD d) (u.getD d'):=by
 cases o with
 | none=>cases u with
  | none=>exact rd
  | some _=>exact (show False from r).elim
 | some _=>cases u with
  | none=>exact (show False from r).elim
  | some _=>exact r
theorem KV.val {kvs:List (κ × V)} {vs:List (κ × Value)} (r:KV kvs vs) (k:κ):Ey (Ao kvs k) (valueAt vs k):=by
 unfold KV at r
 induction r with
 | nil=>exact True.intro
 | @cons p q ps qs h t ih =>
  obtain ⟨h1,h2⟩ := h
  by_cases e:p.1 = k
  ·have e':q.1 = k:=h1.symm.trans e
   have b:valueAt (q :: qs) k = some q.2:=by simp [valueAt,List.find?_cons,e']
   rw [Bp e,b]; exact h2
  ·have e':¬ q.1 = k:=fun z=>e (h1.trans z)
   have b:valueAt (q :: qs) k = valueAt qs k:=by simp [valueAt,List.find?_cons,e']
   rw [Bo e,b]; exact ih
theorem KV.any {kvs:List (κ × V)} {vs:List (κ × Value)} (r:KV kvs vs) (k:κ):(kvs.any fun kv=>decide (kv.1 = k)) = vs.any fun kv=>decide (kv.1 = k):=by
 unfold KV at r
 induction r with
 | nil=>rfl
 | cons h t ih=>rw [List.any_cons,List.any_cons,ih,h.1]
theorem KV.wo {kvs : List (κ × V)} {vs : List (κ × Value)} (r : KV kvs vs) (k : κ) {y : V} {u : Value} (ry : B4 y u) :
  KV (kvs.map fun kv=>if kv.1 = k then (kv.1,y) else kv) (vs.map fun kv=>if kv.1 = k then (kv.1,u) else kv):=by
 unfold KV at r ⊢
 induction r with
 | nil=>exact .nil
 | @cons p q ps qs h t ih =>
  rw [List.map_cons,List.map_cons]
  refine .cons ?_ ih
  obtain ⟨h1,h2⟩ := h
  by_cases e:p.1 = k
  ·rw [if_pos e,if_pos (h1.symm.trans e)]; exact ⟨h1,ry⟩
  ·rw [if_neg e,if_neg (fun z=>e (h1.trans z))]; exact ⟨h1,h2⟩
theorem KV.put {kvs:List (κ × V)} {vs:List (κ × Value)} (r:KV kvs vs) (k:κ) {y:V} {u:Value} (ry:B4 y u):KV (C8 kvs k y) (stored vs k u):=by
 unfold C8 stored
 rw [r.any k]
 by_cases e:(vs.any fun kv=>decide (kv.1 = k)) = true
 ·rw [if_pos e,if_pos e]; exact r.wo k ry
 ·rw [if_neg e,if_neg e]; exact Paired.snoc r ⟨rfl,ry⟩
theorem KV.drop {kvs:List (κ × V)} {vs:List (κ × Value)} (r:KV kvs vs) (k:κ):KV (Bm kvs k) (without vs k):=by
 unfold KV at r ⊢
 unfold Bm without
 induction r with
 | nil=>exact .nil
 | @cons p q ps qs h t ih =>
  obtain ⟨h1,h2⟩ := h
  rw [List.filter_cons,List.filter_cons]
  by_cases e:p.1 = k
  ·have a:¬ decide (p.1 ≠ k) = true:=by simp [e]
   have b:¬ decide (q.1 ≠ k) = true:=by simp [h1.symm.trans e]
   rw [if_neg a,if_neg b]; exact ih
  ·have e':¬ q.1 = k:=fun z=>e (h1.trans z)
   have a:decide (p.1 ≠ k) = true:=by simp [e]
   have b:decide (q.1 ≠ k) = true:=by simp [e']
   rw [if_pos a,if_pos b]; exact .cons ⟨h1,h2⟩ ih
theorem KV.length {kvs:List (κ × V)} {vs:List (κ × Value)} (r:KV kvs vs):kvs.length = vs.length:=Paired.length r
theorem Py (kvs:List (κ × V)) (k:κ):(Bm kvs k).length <= kvs.length:=List.length_filter_le _ _
end
theorem Qa {P:Program} {w:World} {k:Dt} {u:Value} (r:B4 (kV k) u):(D7 P w).is k u = true:=by
 cases k with
 | inl i=>obtain ⟨t,e⟩ := (show ∃ t,u = Value.int i t from r); subst e; exact Qi P w i t
 | inr x=>obtain ⟨t,e⟩ := (show ∃ t,u = Value.str x t from r); subst e; exact Qj P w x t
abbrev KT (H:Hp):List ((List Int × Int) × V) -> List ((List Int × Int) × Addr × Value) -> Prop:=Paired fun p q=>p.1 = q.1 /\ G3 H q.2.1 p.1 /\ B4 p.2 q.2.2
theorem KT.val {H:Hp} {kvs:List ((List Int × Int) × V)} {xs:List ((List Int × Int) × Addr × Value)} (r:KT H kvs xs) (k:(List Int × Int)):Ey (Ao kvs k) ((atKey xs k).map (·.2)):=by
 induction r with
 | nil=>exact True.intro
 | @cons p q ps qs h t ih =>
  obtain ⟨h1,_,h2⟩ := h
  by_cases e:p.1 = k
  ·have e':q.1 = k:=h1.symm.trans e
   have b:atKey (q :: qs) k = some q.2:=by simp [atKey,List.find?_cons,e']
   rw [Bp e,b]; exact h2
  ·have e':¬ q.1 = k:=fun z=>e (h1.trans z)
   have b:atKey (q :: qs) k = atKey qs k:=by simp [atKey,List.find?_cons,e']
   rw [Bo e,b]; exact ih
theorem KT.wo {H : Hp} {kvs : List ((List Int × Int) × V)} {xs : List ((List Int × Int) × Addr × Value)} (r : KT H kvs xs) (k : (List Int × Int)) {y : V} {u : Value} (ry : B4 y u) :
  KT H (kvs.map fun kv=>if kv.1 = k then (kv.1,y) else kv) (xs.map (putAt k u)):=by
 induction r with
 | nil=>exact .nil
 | @cons p q ps qs h t ih =>
  rw [List.map_cons,List.map_cons]
  refine .cons ?_ ih
  obtain ⟨h1,h2,h3⟩ := h
  unfold putAt
  by_cases e:p.1 = k
  ·rw [if_pos e,if_pos (h1.symm.trans e)]; exact ⟨h1,h2,ry⟩
  ·rw [if_neg e,if_neg (fun z=>e (h1.trans z))]; exact ⟨h1,h2,h3⟩
theorem KT.put {H : Hp} {kvs : List ((List Int × Int) × V)} {xs : List ((List Int × Int) × Addr × Value)} (r : KT H kvs xs) (k : (List Int × Int)) {b : Addr} {y : V} {u : Value} (hb : G3 H b k) (ry : B4 y u) :
  KT H (C8 kvs k y) (storedH xs k b u):=by
 have e:(kvs.any fun kv=>decide (kv.1 = k)) = (atKey xs k).isSome:=by
  rw [E7,(r.val k).gT,Option.isSome_map]
 unfold C8 storedH
 rw [e]
 by_cases q:(atKey xs k).isSome = true
 ·rw [if_pos q,if_pos q]; exact r.wo k ry
 ·rw [if_neg q,if_neg q]; exact Paired.snoc r ⟨rfl,hb,ry⟩
theorem KT.keeps {H H':Hp} {kvs:List ((List Int × Int) × V)} {xs:List ((List Int × Int) × Addr × Value)} (r:KT H kvs xs) (ht:∀ b ys,H b = some (.tup ys) -> H' b = some (.tup ys)):KT H' kvs xs :=
 Paired.HN r fun _ _ z=>⟨z.1,z.2.1.up ht,z.2.2⟩
section
variable {P:Program} {w:World} {H:Hp} {h:Heap} {a:Addr}
theorem Zy {u:HO} (ok:Fh P w H h) (e:Rd H a u):Bl P w H h a u:=e.ok ok
theorem Ke {kvs:List (Dt × V)} (ok:Fh P w H h) (e:Rd H a (.dK kvs)):kvs.length <= sizeLine /\ (a == sysModules) = false /\ ∃ vs,KV kvs vs /\ h.DictOf (D7 P w) a vs :=
 show Bl P w H h a (.dK kvs) from Zy ok e
theorem Zs {kvs:List (Dt × V)} (ok:Fh P w H h) (e:H a = some (.dK kvs)):kvs.length <= sizeLine /\ (a == sysModules) = false /\ ∃ vs,KV kvs vs /\ h.DictOf (D7 P w) a vs:=Ke ok (.inl e)
theorem Q8 {P:Program} {w:World}:∀ {ks:List Int} {us:List Value},B2 (ks.map V.int) us -> ItemsAre (intKind P w) ks us
 | [],us,r=>by
  cases r
  exact .nil
 | k :: ks,us,r=>by
  cases r with
  | cons h t =>
   obtain ⟨tk,rfl⟩ := h
   exact .cons (by simp [intKind,Value.isInt]) (Q8 t)
theorem E6 {P:Program} {w:World} {A:Around} (hu:A.units + 20 < cLine):(Cs P w).room A.in1:=by
 first | (show A.units + 1 + 8 < cLine; omega) | (show A.units + 8 < cLine; omega)
theorem Hz {ks:List Int × Int} (ok:Fh P w H h) (e:G3 H a ks):(Cs P w).is h ks a:=by
 obtain ⟨u,e1,e2⟩ := e
 obtain ⟨_,aU,r,o,h1,h2,n,h3⟩ := (show Bl P w H h a (.tup [.ref u,.int ks.2]) from ok a _ e1)
 obtain ⟨_,iR,r2,o2,g1,g2,m,g3⟩ := (show Bl P w H h u (.tup (ks.1.map V.int)) from ok u _ e2)
 cases r with
 | cons r1 rr =>
  cases rr with
  | cons r3 rr =>
   cases rr
   cases (show _ = Value.ref u from r1)
   obtain ⟨t,rfl⟩ := r3
   exact ⟨o,n,u,t,h1,h2,h3,o2,iR.toArray,m,g1,g2,g3,by simpa using Q8 r2⟩
theorem Mg {kvs : List ((List Int × Int) × V)} (ok : Fh P w H h) (e : Rd H a (.dT kvs)) : kvs.length <= sizeLine /\ (a == sysModules) = false /\
  ∃ xs,KT H kvs xs /\ h.DictOfH (Cs P w) a xs:=by
 obtain ⟨z,y,xs,r,o,es,ep,h1,h2,h3,h4,h5⟩ := (show Bl P w H h a (.dT kvs) from Zy ok e)
 refine ⟨z,y,xs,r,o,es,ep,h1,h2,h3,h4,fun x hx=>?_,h5⟩
 have all:∀ {l:List ((List Int × Int) × V)} {m:List ((List Int × Int) × Addr × Value)},KT H l m -> ∀ x ∈ m,(Cs P w).is h x.1 x.2.1:=by
  intro l m q
  induction q with
  | nil=>intro x hx; exact nomatch hx
  | @cons p q ps qs hq t ih =>
   intro x hx
   rcases List.mem_cons.mp hx with e | hx
   ·subst e
    exact Hz ok (by rw [<- hq.1]; exact hq.2.1)
   ·exact ih x hx
 exact all r x hx
theorem Zt {kvs : List ((List Int × Int) × V)} (ok : Fh P w H h) (e : H a = some (.dT kvs)) : kvs.length <= sizeLine /\ (a == sysModules) = false /\
  ∃ xs,KT H kvs xs /\ h.DictOfH (Cs P w) a xs:=Mg ok (.inl e)
end
def D5 (H:Hp) (a:Addr) (y:V) (r:Option V):Prop :=
 (∃ kvs k,Rd H a (.dK kvs) /\ y = kV k /\ r = Ao kvs k) \/ ∃ kvs k b,Rd H a (.dT kvs) /\ y = .ref b /\ G3 H b k /\ r = Ao kvs k
def Tx (H:Hp) (a:Addr) (y v:V) (H':Hp):Prop :=
 (∃ kvs k,H a = some (.dK kvs) /\ y = kV k /\ kvs.length < sizeLine /\ H' = upd H a (.dK (C8 kvs k v))) \/
 ∃ kvs k b,H a = some (.dT kvs) /\ y = .ref b /\ G3 H b k /\ kvs.length < sizeLine /\ H' = upd H a (.dT (C8 kvs k v))
theorem D5.k {H:Hp} {a:Addr} {kvs:List (Dt × V)} {k:Dt} (e:H a = some (.dK kvs)):D5 H a (kV k) (Ao kvs k) := .inl ⟨kvs,k,.inl e,rfl,rfl⟩
theorem D5.t {H:Hp} {a b:Addr} {kvs:List ((List Int × Int) × V)} {k:(List Int × Int)} (e:H a = some (.dT kvs)) (eb:G3 H b k):D5 H a (.ref b) (Ao kvs k) := .inr ⟨kvs,k,b,.inl e,rfl,eb,rfl⟩
theorem Tx.t {H : Hp} {a b : Addr} {kvs : List ((List Int × Int) × V)} {k : (List Int × Int)} {v : V} (e : H a = some (.dT kvs)) (eb : G3 H b k) (hl : kvs.length < sizeLine) :
  Tx H a (.ref b) v (upd H a (.dT (C8 kvs k v))) := .inr ⟨kvs,k,b,e,rfl,eb,hl,rfl⟩
section
variable {X:Cx} {pins:List (Addr × Obj)} {σ:St} {H:Hp} {s:Shared} {a:Addr} {y v:V} {u r:Value} {o:Option V} {A:Around} {E:Value -> Shared -> Prop}
theorem Ai.big (I:Ai X pins σ H s):sysModules < s.heap.objs.size:=by
 have h:mainGlobals < s.heap.objs.size:=(I.mod.glob.keeps I.bk).lt
 exact Nat.lt_trans (by decide) h
theorem Uf {Q : Value -> Shared -> Prop} (hu : A.units + 20 < cLine) (I : Ai X pins σ H s) (g : D5 H a y (some v)) (ry : B4 y u) (h : ∀ w' s', Ai X pins σ H s' -> B4 v w' -> Q w' s') :
  wpAny (model X.prog X.w) A (getItem (.ref a) u) Q E s:=by
 rcases g with ⟨kvs,k,e,ey,l⟩ | ⟨kvs,k,b,e,ey,eb,l⟩
 ·subst ey
  obtain ⟨z,hd,vs,rel,dd⟩ := Ke I.aS e
  obtain ⟨w',hw,lH⟩ := Ey.some_of (v:=v) (o:=valueAt vs k) (by rw [l]; exact rel.val k)
  exact wpAny_getItem_of (Qa ry) dd.mapOf hw (h w' _ (I.tok _) lH)
 ·subst ey
  cases (show u = Value.ref b from ry)
  obtain ⟨z,hd,xs,rel,dd⟩ := Mg I.aS e
  obtain ⟨w',hw,lH⟩ := Ey.some_of (v:=v) (o:=(atKey xs k).map (·.2)) (by rw [l]; exact rel.val k)
  obtain ⟨p,hp,IY⟩ := Option.map_eq_some_iff.mp hw
  refine wpAny_getItem_heap (E6 hu) (Hz I.aS eb) dd hp ?_
  rw [IY]
  exact h w' _ (I.tok _) lH
theorem l8 {Q : Value -> Shared -> Prop} (hu : A.units + 20 < cLine) (I : Ai X pins σ H s) (g : D5 H a y o) (ry : B4 y u) (h : ∀ s', Ai X pins σ H s' -> Q (.bool o.isSome) s') :
  wpAny (model X.prog X.w) A (compareOp .In u (.ref a)) Q E s:=by
 rcases g with ⟨kvs,k,e,ey,l⟩ | ⟨kvs,k,b,e,ey,eb,l⟩
 ·subst ey
  obtain ⟨z,hd,vs,rel,dd⟩ := Ke I.aS e
  refine wpAny_in_of (Qa ry) hd dd.mapOf ?_
  rw [<- (rel.val k).gT,<- l]
  exact h _ (I.tok _)
 ·subst ey
  cases (show u = Value.ref b from ry)
  obtain ⟨z,hd,xs,rel,dd⟩ := Mg I.aS e
  refine wpAny_in_heap (E6 hu) (Hz I.aS eb) hd dd ?_
  have q:=(rel.val k).gT
  rw [Option.isSome_map] at q
  rw [<- q,<- l]
  exact h _ (I.tok _)
theorem Ju {h' : Heap} {t' : Nat} {ob : HO} (I : Ai X pins σ H s) (mu : gn (H a)) (hs : Heap.SameBut a s.heap h') (he : ∃ q, h'.get? a = some q) (new : Bl X.prog X.w (upd H a ob) h' a ob) :
  Ai X pins σ (upd H a ob) { s with heap:=h',toks:=t' } :=
 I.write (x:=a) (e:=a) mu (.inl rfl) (fun b q hb z=>(hs.2 b hb).trans z) he new
theorem We {P : Program} {w : World} {H' : Hp} {h' : Heap} {kvs : List (Dt × V)} {vs : List (Dt × Value)} (z : kvs.length <= sizeLine) (hd : (a == sysModules) = false) (rel : KV kvs vs) (dd : h'.DictOf (D7 P w) a vs) :
  Bl P w H' h' a (.dK kvs):=⟨z,hd,vs,rel,dd⟩
theorem Ug {H' : Hp} {Q : Unit -> Shared -> Prop} (hu : A.units + 20 < cLine) (I : Ai X pins σ H s) (g : Tx H a y v H') (ry : B4 y u) (rv : B4 v r) (h : ∀ s', Ai X pins σ H' s' -> Q () s') :
  wpAny (model X.prog X.w) A (setItem (.ref a) u r) Q E s:=by
 rcases g with ⟨kvs,k,e,ey,l,eH⟩ | ⟨kvs,k,b,e,ey,eb,l,eH⟩
 ·subst ey eH
  obtain ⟨z,hd,vs,rel,dd⟩ := Zs I.aS e
  have hz:vs.length <= sizeLine:=by rw [<- rel.length]; exact z
  have hl:(C8 kvs k v).length <= sizeLine:=by have:=Dm kvs k v; omega
  refine wpAny_setItem_pairs (hsz:=hz) (Qa ry) dd fun h' sU hs=>h _ ?_
  have he:∃ q,h'.get? a = some q:=let ⟨q,_,_,hq,_⟩ := sU; ⟨q,hq⟩
  exact Ju I (by rw [e]; exact True.intro) hs he (We hl hd (rel.put k rv) sU)
 ·subst ey eH
  cases (show u = Value.ref b from ry)
  obtain ⟨z,hd,xs,rel,dd⟩ := Zt I.aS e
  have hz:xs.length <= sizeLine:=by rw [<- Paired.length rel]; exact z
  have hl:(C8 kvs k v).length <= sizeLine:=by have:=Dm kvs k v; omega
  refine wpAny_setItem_heap (hsz:=hz) (E6 hu) (Hz I.aS eb) dd fun h' sU hs=>h _ ?_
  obtain ⟨q,es,ep,hq,h2,h3,h4,_,h5⟩ := sU
  refine Ju I (by rw [e]; exact True.intro) hs ⟨q,hq⟩ ⟨hl,hd,_,(rel.put k eb rv).keeps fun c ys ec=>?_,q,es,ep,hq,h2,h3,h4,h5⟩
  rw [A8 (Bb ec e (fun z=>nomatch z))]
  exact ec
end
section
variable {X:Cx} {pins:List (Addr × Obj)} {σ:St} {H:Hp} {s:Shared} {a:Addr} {kvs:List (Dt × V)} {k:Dt} {u:Value} {A:Around} {E:Value -> Shared -> Prop}
theorem gy {v : V} {more : List Value} {Q : Value -> Shared -> Prop} (I : Ai X pins σ H s) (e : H a = some (.dK kvs)) (ry : B4 (kV k) u) (l : Ao kvs k = some v) (hm : more = [] \/ ∃ x, more = [x])
  (h:∀ w' s',Ai X pins σ (upd H a (.dK (Bm kvs k))) s' -> B4 v w' -> Q w' s'):wpAny (model X.prog X.w) A (call (.builtin "dict.pop") (.ref a :: u :: more)) Q E s:=by
 obtain ⟨z,hd,vs,rel,dd⟩ := Zs I.aS e
 obtain ⟨w',hw,lH⟩ := Ey.some_of (v:=v) (o:=valueAt vs k) (by rw [<- l]; exact rel.val k)
 have hp:(keyPart u).isSome = true:=by
  cases k with
  | inl i=>obtain ⟨t,q⟩ := (show ∃ t,u = Value.int i t from ry); subst q; rfl
  | inr x=>obtain ⟨t,q⟩ := (show ∃ t,u = Value.str x t from ry); subst q; rfl
 have ha:argsOk "dict.pop" ⟨.ref a :: u :: more,[]⟩ := by
  rcases hm with q | ⟨x,q⟩
  ·subst q; exact PySem.F.args_dict_pop_2 _ _
  ·subst q; exact PySem.F.args_dict_pop_3 _ _ _
 refine call_meetsIn PySem.F.slot_dict_pop dd.typeIs PySem.F.entry_dict_pop ha (meets_dict_pop_there (D7 X.prog X.w) a (Qa ry) more hm hp)
  ⟨vs,w',dd,by rw [<- rel.length]; exact z,hw,fun h' sU hs=>h w' _ ?_ lH⟩
 have he:∃ q,h'.get? a = some q:=let ⟨q,_,_,hq,_⟩ := sU; ⟨q,hq⟩
 exact Ju I (by rw [e]; exact True.intro) hs he (We (Nat.le_trans (Py kvs k) z) hd (rel.drop k) sU)
end
def gp (i:Expr):Prop := ∀ ov iv,subscripted i false ov iv = operate [ov,iv] (getItem ov iv)
theorem Zn {prog : Program} {w : World} {A : Around} {E : Value -> Shared -> Prop} {s : Shared} {env : Env} {value slice : Expr} {pos : Pos} {T id : String} {Q : Value -> Shared -> Prop}
  (hl:typeLookup (.type T) "__getitem__" = pure (some (.builtin id))) (hs:gp slice)
  (h:wpAny (model prog w) A (eval value env) (fun o s₁=>wpAny (model prog w) A (eval slice env) (fun i s₂=>s₂.TypeIs o T /\ wpAny (model prog w) A (getItem o i) Q E s₂) E s₁) E s) :
  wpAny (model prog w) A (eval (.Subscript value slice pos) env) Q E s:=by
 refine Subscript_ (wpAny_mono h (fun o s₁ h₁=>wpAny_mono h₁ (fun i s₂ h₂=>?_) fun _ _ x=>x) fun _ _ x=>x)
 obtain ⟨hT,h₂⟩ := h₂
 unfold subscriptTail
 refine wpAny_bind ?_
 rw [getitemInPython_of_ne hT.not_modules]
 refine wpAny_bind (wpAny_specialOf hT hl ?_)
 have fin:wpAny (model prog w) A (subscripted slice false o i) (fun r s₃=>wpAny (model prog w) A (letTemporaryGo value o r >>= fun _=>pure r) Q E s₃) E s₂:=by
  rw [hs o i]
  exact wpAny_operating (wpAny_mono h₂ (fun r s₃ h₃=>wpAny_bind (wpAny_letTemporaryGo (wpAny_pure h₃))) fun _ _ x=>x)
 first
  | exact wpAny_pure (wpAny_bind fin)
  | exact wpAny_bind (wpAny_pure (wpAny_bind fin))
  | exact wpAny_bind fin
theorem Pu {X:Cx} {pins:List (Addr × Obj)} {σ:St} {H:Hp} {s:Shared} {a:Addr} {y:V} {o:Option V} (I:Ai X pins σ H s) (g:D5 H a y o):s.TypeIs (.ref a) "dict" := by
 rcases g with ⟨kvs,k,e,_,_⟩ | ⟨kvs,k,b,e,_,_,_⟩
 ·obtain ⟨_,_,vs,_,dd⟩ := Ke I.aS e
  exact dd.typeIs
 ·obtain ⟨_,_,xs,_,dd⟩ := Mg I.aS e
  exact dd.typeIs
def js (td ty:TE):TE:=fun σ H Q=>td σ H fun x H1=>ty σ H1 fun y H2=>∃ a v,x = .ref a /\ D5 H2 a y (some v) /\ Q v H2
def ly (ty td:TE):TE:=fun σ H Q=>ty σ H fun y H1=>td σ H1 fun x H2=>∃ a o,x = .ref a /\ D5 H2 a y o /\ Q (.bl o.isSome) H2
def ja (td ty tv:TE):TS:=fun D σ H=>tv σ H fun v H1=>td σ H1 fun x H2=>ty σ H2 fun y H3=>∃ a H4,x = .ref a /\ Tx H3 a y v H4 /\ D.nx σ H4
section
variable {X:Cx} {o i e value:Expr} {pos pos' ot:Pos} {td ty tv:TE}
theorem Fv (hu:X.A.units + 20 < cLine) (ho:PE X o td) (hi:PE X i ty) (hs:gp i):PE X (.Subscript o i pos) (js td ty):=by
 intro pins s σ H Q I h
 refine Zn PySem.F.slot_dict_getitem.lookup hs (Bv (ho pins s σ H _ I h) fun u s1 ⟨x,H1,I1,rx,q1⟩=>Bv (hi pins s1 σ H1 _ I1 q1) fun iv s2 dG=>?_)
 obtain ⟨y,H2,I2,ry,a,v,ex,g,q2⟩ := dG
 subst ex
 obtain rfl:u = Value.ref a:=rx
 exact ⟨Pu I2 g,Uf hu I2 g ry fun w' s3 I3 lH=>⟨v,H2,I3,lH,q2⟩⟩
theorem Ig (hu:X.A.units + 20 < cLine) (hi:PE X i ty) (ho:PE X o td):PC X .In i o (ly ty td):=by
 intro pins s σ H Q I h
 refine Bv (hi pins s σ H _ I h) fun iv s1 ⟨y,H1,I1,ry,q1⟩=>Bv (ho pins s1 σ H1 _ I1 q1) fun u s2 dG=>?_
 obtain ⟨x,H2,I2,rx,a,ov,ex,g,q2⟩ := dG
 subst ex
 obtain rfl:u = Value.ref a:=rx
 exact l8 hu I2 g ry fun s3 I3=>⟨.bl ov.isSome,H2,I3,rfl,q2⟩
theorem Oj (hu : X.A.units + 20 < cLine) (ho : PE X o td) (hi : PE X i ty) (hv : PE X value tv) (hs : swapsWith value (some (.Subscript o i pos')) pos.line X.env = pure false) :
  PS X (.Assign [.Subscript o i pos'] value pos) (ja td ty tv):=by
 intro pins s σ H D I h
 refine wpAny_Assign_Subscript (Bv (hv pins s σ H _ I h) fun r s1 ⟨v,H1,I1,rv,q1⟩=>Bv (ho pins s1 σ H1 _ I1 q1) fun u s2 ⟨x,H2,I2,rx,q2⟩=>Bv (hi pins s2 σ H2 _ I2 q2) fun iv s3 ⟨y,H3,I3,ry,a,H4,ex,g,q3⟩=>?_) hs
 subst ex
 obtain rfl:u = Value.ref a:=rx
 exact Ug hu I3 g ry rv fun s4 I4=>⟨σ,H4,I4,q3⟩
end
theorem Wd {P:Program} {w:World} {H:Hp} (h:Heap) (hb:sysModules < h.objs.size):Bl P w H (h.push { cls := .type "dict",data := .dict #[] }) h.objs.size (.dK []) :=
 ⟨Nat.zero_le _,beq_eq_false_iff_ne.mpr (Ne.symm (Nat.ne_of_lt hb)),[],.nil,Heap.DictOf.new h⟩
theorem Wf {P:Program} {w:World} {H:Hp} (h:Heap) (hb:sysModules < h.objs.size):Bl P w H (h.push { cls := .type "dict",data := .dict #[] }) h.objs.size (.dT []) :=
 ⟨Nat.zero_le _,beq_eq_false_iff_ne.mpr (Ne.symm (Nat.ne_of_lt hb)),[],.nil,_,#[],0,Heap.get?_push_size _ rfl,⟨rfl,rfl,rfl⟩,rfl,rfl,List.nodup_nil⟩
def fq:TE:=fun _ H Q=>∀ p,H p = none -> Q (.ref p) (upd H p (.dK []))
def ft:TE:=fun _ H Q=>∀ p,H p = none -> Q (.ref p) (upd H p (.dT []))
section
variable {X:Cx} {pos:Pos}
theorem Xe:PE X (.Dict [] [] pos) fq:=fun pins s σ H Q I h =>
 wpAny_Dict_empty ⟨.ref s.heap.objs.size,_,I.laid (a:=s.heap.objs.size) (o := .dK []) (t':=s.toks) (fun _ _ q=>Heap.get?_push_of_some _ q) (Nat.le_refl _) (Wd s.heap I.big),rfl,h _ (I.aS.fresh (Nat.le_refl _))⟩
theorem Kx:PE X (.Dict [] [] pos) ft:=fun pins s σ H Q I h =>
 wpAny_Dict_empty ⟨.ref s.heap.objs.size,_,I.laid (a:=s.heap.objs.size) (o := .dT []) (t':=s.toks) (fun _ _ q=>Heap.get?_push_of_some _ q) (Nat.le_refl _) (Wf s.heap I.big),rfl,h _ (I.aS.fresh (Nat.le_refl _))⟩
end
structure M1 (X:Cx) (o:Expr) (m:Str) (apos:Pos) (e:Expr) (dH:Pos):Prop where
 base:attributeBase o m X.env (eval o X.env) = eval o X.env
 GR:((backTo dH (starEach [e] X.env)).all (fun x=>!x.1) && (backToKw dH (keywordEach [] X.env)).all (fun x=>x.1.isSome)
  && decide (([e]:List Expr).length + ([]:List Keyword).length + (if ([]:List Keyword).isEmpty then 0 else 1) < 30)) = true
 line:(apos.endLine == dH.line) = true
 trees:backTo dH (starEach [e] X.env) = [(false,eval e X.env)]
structure M2 (X:Cx) (o:Expr) (m:Str) (apos:Pos) (e f:Expr) (dH:Pos):Prop where
 base:attributeBase o m X.env (eval o X.env) = eval o X.env
 GR:((backTo dH (starEach [e,f] X.env)).all (fun x=>!x.1) && (backToKw dH (keywordEach [] X.env)).all (fun x=>x.1.isSome)
  && decide (([e,f]:List Expr).length + ([]:List Keyword).length + (if ([]:List Keyword).isEmpty then 0 else 1) < 30)) = true
 line:(apos.endLine == dH.line) = true
 trees:backTo dH (starEach [e,f] X.env) = [(false,eval e X.env),(false,eval f X.env)]
def ka (H:Hp) (a:Addr):Prop:=(∃ kvs,Rd H a (.dK kvs)) \/ ∃ kvs,Rd H a (.dT kvs)
theorem Ri {X : Cx} {pins : List (Addr × Obj)} {σ : St} {H : Hp} {s : Shared} {a : Addr} (I : Ai X pins σ H s) (d : ka H a) :
  s.TypeIs (.ref a) "dict" /\ (∀ b,Value.ref a = .ref b -> ∃ ob,s.heap.get? b = some ob /\ ob.dict = none) /\ (a == sysModules) = false:=by
 rcases d with ⟨kvs,e⟩ | ⟨kvs,e⟩
 ·obtain ⟨_,hd,vs,_,dd⟩ := Ke I.aS e
  refine ⟨dd.typeIs,fun b q=>?_,hd⟩
  cases q
  obtain ⟨ob,_,_,h1,h2,_⟩ := dd
  exact ⟨ob,h1,h2.2.1⟩
 ·obtain ⟨_,hd,xs,_,dd⟩ := Mg I.aS e
  refine ⟨dd.typeIs,fun b q=>?_,hd⟩
  cases q
  obtain ⟨ob,_,_,h1,h2,_⟩ := dd
  exact ⟨ob,h1,h2.2.1⟩
section
variable {X:Cx} {pins:List (Addr × Obj)} {σ:St} {H:Hp} {s:Shared} {a:Addr} {y d:V} {u r:Value} {o:Option V} {A:Around} {E:Value -> Shared -> Prop}
theorem ap {Q : Value -> Shared -> Prop} (hu : A.units + 20 < cLine) (I : Ai X pins σ H s) (g : D5 H a y o) (ry : B4 y u) (rd : B4 d r) (h : ∀ w' s', Ai X pins σ H s' -> B4 (o.getD d) w' -> Q w' s') :
  wpAny (model X.prog X.w) A (call (.builtin "dict.get") [.ref a,u,r]) Q E s:=by
 rcases g with ⟨kvs,k,e,ey,l⟩ | ⟨kvs,k,b,e,ey,eb,l⟩
 ·subst ey
  obtain ⟨z,hd,vs,rel,dd⟩ := Ke I.aS e
  refine call_meetsIn PySem.F.slot_dict_get dd.typeIs PySem.F.entry_dict_get (PySem.F.args_dict_get_3 _ _ _) (meets_dict_get_default (D7 X.prog X.w) a (Qa ry) hd r) ⟨_,dd.mapOf,h _ _ (I.tok _) ?_⟩
  rw [l]
  exact (rel.val k).getD rd
 ·subst ey
  cases (show u = Value.ref b from ry)
  obtain ⟨z,hd,xs,rel,dd⟩ := Mg I.aS e
  refine call_meetsIn PySem.F.slot_dict_get dd.typeIs PySem.F.entry_dict_get (PySem.F.args_dict_get_3 _ _ _) (meetsH_dict_get_default (Cs X.prog X.w) a b hd r) ⟨E6 hu,k,xs,Hz I.aS eb,dd,h _ _ (I.tok _) ?_⟩
  rw [l]
  exact (rel.val k).getD rd
end
def fo (td ty tx:TE):TE:=fun σ H Q=>td σ H fun x H1=>∃ a,x = .ref a /\ ka H1 a /\ ty σ H1 fun y H2=>tx σ H2 fun z H3=>∃ o,D5 H3 a y o /\ Q (o.getD z) H3
def fu (td ty:TE):TE:=fun σ H Q=>td σ H fun x H1=>∃ a,x = .ref a /\ ka H1 a /\ ty σ H1 fun y H2=>∃ kvs k v,H2 a = some (.dK kvs) /\ y = kV k /\ Ao kvs k = some v /\ Q v (upd H2 a (.dK (Bm kvs k)))
section
variable {X:Cx} {o e f:Expr} {apos dH:Pos} {td ty tx:TE}
theorem Xd (hu:X.A.units + 20 < cLine) (ho:PE X o td) (he:PE X e ty) (hf:PE X f tx) (m:M2 X o "get" apos e f dH):PE X (.Call (.Attribute o "get" apos) [e,f] [] dH) (fo td ty tx):=by
 intro pins s σ H Q I h
 refine wpAny_Call_method m.base m.GR m.line PySem.F.plainAttrs_dict PySem.F.slot_dict_get PySem.F.type_dict_get (Bv (ho pins s σ H _ I h) fun u s1 dG=>?_)
 obtain ⟨x,H1,I1,rx,a,ex,d,q1⟩ := dG
 subst ex
 obtain rfl:u = Value.ref a:=rx
 obtain ⟨t1,t2,_⟩ := Ri I1 d
 refine ⟨t1,t2,?_⟩
 rw [m.trees]
 refine Calls.callWith_builtin rfl (Calls.evalArgs_plain (Calls.spliced_cons (Bv (he pins s1 σ H1 _ I1 q1) fun iv s2 ⟨y,H2,I2,ry,q2⟩ =>
  Calls.spliced_cons (Bv (hf pins s2 σ H2 _ I2 q2) fun fv s3 ⟨z,H3,I3,rz,ov,g,q3⟩=>Calls.spliced_nil ?_))))
 exact ap hu I3 g ry rz fun w' s4 I4 lH=>⟨_,H3,I4,lH,q3⟩
theorem Xf (ho:PE X o td) (he:PE X e ty) (m:M1 X o "pop" apos e dH):PE X (.Call (.Attribute o "pop" apos) [e] [] dH) (fu td ty):=by
 intro pins s σ H Q I h
 refine wpAny_Call_method m.base m.GR m.line PySem.F.plainAttrs_dict PySem.F.slot_dict_pop PySem.F.type_dict_pop (Bv (ho pins s σ H _ I h) fun u s1 dG=>?_)
 obtain ⟨x,H1,I1,rx,a,ex,d,q1⟩ := dG
 subst ex
 obtain rfl:u = Value.ref a:=rx
 obtain ⟨t1,t2,_⟩ := Ri I1 d
 refine ⟨t1,t2,?_⟩
 rw [m.trees]
 refine Calls.callWith_builtin rfl (Calls.evalArgs_plain (Calls.spliced_cons (Bv (he pins s1 σ H1 _ I1 q1) fun iv s2 ⟨y,H2,I2,ry,kvs,k,v,ea,ey,l,q2⟩=>Calls.spliced_nil ?_)))
 subst ey
 exact gy I2 ea ry l (.inl rfl) fun w' s3 I3 lH=>⟨v,_,I3,lH,q2⟩
end
section
variable {X:Cx} {pins:List (Addr × Obj)} {σ:St} {H:Hp} {s:Shared} {a:Addr} {kvs:List (Dt × V)} {A:Around} {E:Value -> Shared -> Prop}
end
section
variable {X:Cx} {pins:List (Addr × Obj)} {σ:St} {H:Hp} {s:Shared} {a:Addr} {y:V} {u:Value} {A:Around} {E:Value -> Shared -> Prop}
end
section
variable {κ:Type} [DecidableEq κ]
theorem R1 {kvs:List (κ × V)} {k:κ} (h:Ao kvs k = none):¬ k ∈ kvs.map (·.1):=by
 intro m
 obtain ⟨p,hp,e⟩ := List.mem_map.mp m
 have q:(kvs.any fun kv=>decide (kv.1 = k)) = true:=List.any_eq_true.mpr ⟨p,hp,decide_eq_true e⟩
 rw [E7,h] at q
 exact absurd q (by simp)
theorem Uj {p:κ × V} {r:List (κ × V)} {k:κ} (e:p.1 = k):Bm (p :: r) k = Bm r k:=by
 unfold Bm
 rw [List.filter_cons,if_neg (by simp [e])]
end
section
variable {P:Program} {w:World} {A:Around} {E:Value -> Shared -> Prop} {s:Shared}
theorem Xc {it d : Addr} {i n ep : Nat} {ok ov key val : Value} {Q : Value -> Shared -> Prop} (hit : IsItemIter s.heap it d i n ep ok ov)
  (hQ:∀ h',IsItemIterOut h' it d i n ep key val s.heap.objs.size -> h'.get? s.heap.objs.size = some { cls := .type "tuple",data := .seq #[key,val] } -> (∀ b o,b ≠ it -> s.heap.get? b = some o -> h'.get? b = some o) -> Q (.ref s.heap.objs.size) { s with heap:=h' }) :
  wpAny (model P w) A (Builtin.Dict_items.pairFromOwner (.ref it) 6 key val) Q E s:=by
 unfold Builtin.Dict_items.pairFromOwner; refine wpAny_bind (wpAny_newTuple ?_)
 have dE:it < s.heap.objs.size:=Heap.lt_size hit
 have a1:IsItemIter (s.heap.push { cls := .type "tuple",data := .seq #[key,val] }) it d i n ep ok ov:=Heap.get?_push_of_some _ hit
 have a2:(s.heap.push { cls := .type "tuple",data := .seq #[key,val] }).get? s.heap.objs.size = some { cls := .type "tuple",data := .seq #[key,val] }:=Heap.get?_push_size _ rfl
 have a3:∀ b o,s.heap.get? b = some o -> (s.heap.push { cls := .type "tuple",data := .seq #[key,val] }).get? b = some o:=fun b o z=>Heap.get?_push_of_some _ z
 show wpAny (model P w) A (Builtin.Dict_items.ownedTupleIsFree (.ref it) >>= _) Q E { s with heap:=s.heap.push { cls := .type "tuple",data := .seq #[key,val] } }
 generalize s.heap.push { cls := .type "tuple",data := .seq #[key,val] } = h1 at a1 a2 a3 ⊢
 unfold Builtin.Dict_items.ownedTupleIsFree; refine wpAny_bind (wpAny_bind (wpAny_field a1 rfl (x := .none) rfl (wpAny_pure ?_))); simp only [if_true]
 refine wpAny_bind (wpAny_field a1 rfl (x:=ok) rfl (wpAny_bind (wpAny_field a1 rfl (x:=ov) rfl ?_)))
 refine wpAny_bind (wpAny_setField_rec a1 (by simp) fun h2 b2 c2=>wpAny_bind ?_)
 have b2':IsItemIter h2 it d i n ep key ov:=b2
 refine wpAny_setField_rec b2' (by simp) fun h3 b3 c3=>wpAny_bind ?_
 have b3':IsItemIter h3 it d i n ep key val:=b3
 refine wpAny_setField_rec b3' (by simp) fun h4 b4 c4=>wpAny_bind ?_
 have b4':IsItemIterOut h4 it d i n ep key val s.heap.objs.size:=b4
 refine wpAny_setField_rec b4' (by simp) fun h5 b5 c5=>wpAny_bind (wpAny_letGo (wpAny_pure ?_))
 have up:∀ b o,b ≠ it -> h1.get? b = some o -> h5.get? b = some o:=fun b o hb z=>c5.extBut b o hb (c4.extBut b o hb (c3.extBut b o hb (c2.extBut b o hb z)))
 exact hQ h5 b5 (up _ _ (Nat.ne_of_gt dE) a2) fun b o hb z=>up b o hb (a3 b o z)
theorem Wc {it d : Addr} {i ep : Nat} {es : Array DictEntry} {ok ov : Value} {o : Obj} {Q : Option Value -> Shared -> Prop} (hit : IsItemIter s.heap it d i es.size ep ok ov) (IZ : s.heap.get? d = some o) (pf : o.data = .dict es ep)
  {en:DictEntry} (he:es[i]? = some en)
  (hQ:∀ h',IsItemIterOut h' it d (i + 1) es.size ep en.key en.val s.heap.objs.size -> h'.get? s.heap.objs.size = some { cls := .type "tuple",data := .seq #[en.key,en.val] } -> (∀ b o,b ≠ it -> s.heap.get? b = some o -> h'.get? b = some o) -> Q (some (.ref s.heap.objs.size)) { s with heap:=h' }) :
  wpAny (model P w) A (pyNext (.ref it)) Q E s:=by
 have hT:s.TypeIs (.ref it) "dict_itemiterator" := ⟨_,hit,rfl⟩
 have own:Builtin.Dict_items.ownsTuple "dict_itemiterator" = true:=by decide
 unfold pyNext; refine wpAny_bind (wpAny_attempt (wpAny_callSpecial?_slot (name:=Str.ofString "__next__") hT F.slot_dict_itemiterator_next (wpAny_call_entry F.slot_dict_itemiterator_next hT F.entry_dict_itemiterator_next ?_ (F.args_dict_itemiterator_next_1 _))))
 refine wpAny_bind (wpAny_pure (wpAny_bind (wpAny_bind (wpAny_bind (wpAny_typeNameOfWhole_itemiter hT (wpAny_pure (wpAny_bind (wpAny_fieldsOf hit rfl ?_))))))))
 simp only [own,if_true]; show wpAny _ _ (if (Value.ref d == Value.none) = true then _ else _) _ _ s
 rw [if_neg (show ¬ (Value.ref d == Value.none) = true from Bool.false_ne_true)]; refine wpAny_bind (wpAny_pure (wpAny_bind (wpAny_dictEntries IZ pf ?_)))
 rw [if_neg (show ¬ ((es.size:Int) != (es.size:Int)) = true by simp)]; refine wpAny_bind (wpAny_pure (wpAny_bind (wpAny_dictEpoch IZ pf ?_)))
 rw [if_neg (show ¬ ((ep:Int) != (ep:Int)) = true by simp)]; refine wpAny_pure ?_
 simp only [show ¬ ((i:Int) < 0) by omega,if_false,Int.toNat_natCast,he]
 refine wpAny_bind (wpAny_bind (wpAny_typeNameOfWhole_itemiter hT (wpAny_pure (wpAny_bind (wpAny_isOneOf_itemiter hT ?_)))))
 show wpAny _ _ (setField (.ref it) 3 (rawInt ((i:Int) + 1)) >>= _) _ _ s; refine wpAny_bind (wpAny_setField_rec hit (by simp) fun h1 b1 c1=>?_)
 have b1':IsItemIter h1 it d (i + 1) es.size ep ok ov:=by
  have e:((i + 1:Nat):Int) = (i:Int) + 1:=by omega
  unfold IsItemIter; rw [e]; simpa [rawInt] using b1
 have JA:Shared.TypeIs { s with heap:=h1 } (.ref it) "dict_itemiterator" := ⟨_,b1',rfl⟩
 refine wpAny_bind (wpAny_holding (wpAny_bind (wpAny_isOneOf_itemiter JA (wpAny_bind (wpAny_isOneOf_itemiter JA ?_)))))
 have z1:h1.objs.size = s.heap.objs.size:=c1.1
 refine Xc (s:={ s with heap:=h1 }) b1' fun h2 e1 e2 e3=>?_
 rw [show (Shared.heap { s with heap:=h1 }).objs.size = s.heap.objs.size from z1] at e1 e2 ⊢
 exact wpAny_pure ⟨_,rfl,wpAny_pure (hQ h2 e1 e2 fun b o hb z=>e3 b o hb (c1.extBut b o hb z))⟩
end
theorem Gf:bn "str" "str" = some true:=by decide +kernel
theorem Zm {zs:List Str} {us:List Value} (h:B2 (zs.map V.str) us):∃ l:List (Str × Tok),l.map (·.1) = zs /\ strValues l = us:=by
 induction zs generalizing us with
 | nil =>
  cases h
  exact ⟨[],rfl,rfl⟩
 | cons z zs ih =>
  cases h with
  | cons r t =>
   obtain ⟨tk,rfl⟩ := r
   obtain ⟨l,e1,e2⟩ := ih t
   exact ⟨(z,tk) :: l,by simp [e1],by simp [strValues,<- e2]⟩
theorem Z0 {sep:Str} {zs:List Str} (hn:zs.length <= 500) (hz:∀ z ∈ zs,z.length <= 30000) (hs:sep.length <= 500):JoinOk sep zs = true:=by
 refine joinOk_of ?_
 have h1:=sumLen_le_of_bound (fun z:Str=>z) 30000 zs hz
 have h3:zs.length * sep.length <= 500 * 500:=Nat.mul_le_mul hn hs
 rw [List.map_id'] at h1
 omega
section
variable {X:Cx}
def j4 (K:PySem.W.Frag):V -> List V -> Hp -> VK -> Prop:=fun x xs H Q=>∃ (sep:Str) (a:Addr) (zs:List Str),x = .str sep /\ xs = [.ref a] /\ B5 K H a (zs.map V.str) /\ zs.length <= 500 /\ (∀ z ∈ zs,z.length <= 30000) /\ sep.length <= 500 /\ Q (.str (Txt.join sep zs)) H
theorem Od (K:PySem.W.Frag) (hK:X.K = K:=by rfl):kc X "str.join" (j4 K):=by
 subst hK
 intro pins s σ H x xs v us Q I rx rv h
 obtain ⟨sep,a,zs,rfl,rfl,hq,hn,hz,hs,q⟩ := h
 obtain ⟨t,rfl⟩ := rx
 obtain ⟨u,rfl,ru⟩ := rv.one
 cases ru
 obtain ⟨aU,r,pl,_⟩ := I.list hq
 obtain ⟨l,e1,e2⟩ := Zm r
 have aS:=Z0 hn hz hs
 rw [<- e1] at aS q
 have ox:=aS
 unfold JoinOk at ox
 rw [Bool.not_eq_true'] at ox
 have hl:=pl.isList
 rw [<- e2] at hl
 exact call_meets F.slot_str_join (typeIs_str _ _ _) F.entry_str_join (F.args_str_join_2 _ _) (meets_str_join_list sep t a l ox) ⟨hl,post_join l ⟨joinFit_length ox,fun t' k=>⟨.str _,H,I.tok _,⟨_,rfl⟩,q⟩⟩⟩
end
section
variable {P:Program} {w:World} {A:Around} {R:Result -> Shared -> Prop} {K:Type} [DecidableEq K] {knd:HeapKind P w K}
end
section
variable {prog:Program} {w:World} {A:Around} {E:Value -> Shared -> Prop} {s:Shared}
end
section
variable {P:Program} {w:World} {A:Around} {E:Value -> Shared -> Prop} {s:Shared} {R:Result -> Shared -> Prop}
end
section
variable {X:Cx}
end
section
variable {X:Cx} {pins:List (Addr × Obj)} {σ:St} {H:Hp} {s:Shared} {k:Nat}
theorem G0 (I:Ai X pins σ H s) {d:PyData} {v:V} {u:Value} (h:Rp H d v) (r:B4 v u):∃ as,Reads s.heap u d as:=Cj I d v u h r
noncomputable def Gw (h:Heap) (d:PyData) (w:Value):Bool:=open Classical in if z:∃ e as,Reads h w e as /\ e.canLay0 = true then PyData.eqv z.choose d else false
theorem Kn {h:Heap} {d e:PyData} {w:Value} {as:List Addr} (r:Reads h w e as) (hc:e.canLay0 = true):Gw h d w = PyData.eqv e d:=by
 have z:∃ e as,Reads h w e as /\ e.canLay0 = true:=⟨e,as,r,hc⟩
 unfold Gw
 rw [dif_pos z]
 obtain ⟨bs,r',oP⟩ := z.choose_spec
 rw [(PySem.SeqAt.Reads.unique e _ w as bs hc r r')]
theorem Pl (I:Ai X pins σ H s) {d:PyData}:∀ {ds:List PyData} {vs:List V} {us:List Value},cL H ds vs -> B2 vs us -> us.any (Gw s.heap d) = ds.any fun e=>PyData.eqv e d
 | [],vs,us,h,r=>by
  unfold cL at h
  subst h
  cases r
  rfl
 | e :: ds,vs,us,h,r=>by
  unfold cL at h
  obtain ⟨x,xs,rfl,h1,h2⟩ := h
  cases r with
  | cons r1 r2 =>
   obtain ⟨as,q⟩ := G0 I h1 r1
   rw [List.any_cons,List.any_cons,Kn q (Cw e x h1),Pl I h2 r2]
theorem Kp (I:Ai X pins σ H s) {A:Around} {d:PyData} {x:V} {v:Value} (hx:Rp H d x) (rx:B4 x v) (hu:A.units + d.depth < cLine):∀ {ds:List PyData} {vs:List V} {us:List Value},cL H ds vs -> B2 vs us -> ∀ w ∈ us,SeqAt.EqAt A s w v (Gw s.heap d w)
 | [],vs,us,h,r,w,hw=>by
  unfold cL at h
  subst h
  cases r
  cases hw
 | e :: ds,vs,us,h,r,w,hw=>by
  unfold cL at h
  obtain ⟨y,ys,rfl,h1,h2⟩ := h
  cases r with
  | cons r1 r2 =>
   rcases List.mem_cons.mp hw with z | z
   ·subst z
    obtain ⟨as,q⟩ := G0 I h1 r1
    obtain ⟨bs,q2⟩ := G0 I hx rx
    rw [Kn q (Cw e y h1)]
    exact PySem.SeqAt.eqAt_reads e d A s _ _ _ _ q q2 (Cw e y h1) (Cw d x hx) (by omega)
   ·exact Kp I hx rx hu h2 r2 w z
end
section
variable {X:Cx} {k:Nat}
def ll (K:PySem.W.Frag) (neg:Bool):R2:=fun x y H Q=>∃ (p:Addr) (us:List V) (d:PyData) (ds:List PyData),y = .ref p /\ B5 K H p us /\ Rp H d x /\ cL H ds us /\ d.depth <= 50 /\ Q (.bl (if neg then !(ds.any fun e=>PyData.eqv e d) else ds.any fun e=>PyData.eqv e d)) H
theorem V5 (K:PySem.W.Frag) (hr:Cb k X.A) (hK:X.K = K:=by rfl):G6 X (compareOp .NotIn) (ll K true):=by
 subst hK
 intro pins s σ H x y v u Q I rx ry h
 obtain ⟨p,us,d,ds,rfl,hq,hx,hall,hd,q⟩ := h
 cases ry
 obtain ⟨aU,r,pl,hz⟩ := I.list hq
 have hu:=hr.units
 refine SeqAt.notIn_listAt (Gw s.heap d) pl.isList (fun w hw=>Kp I hx rx (by show X.A.units + 1 + d.depth < cLine; omega) hall r w (by simpa using hw)) ⟨.bl _,H,I,rfl,?_⟩
 rw [show aU.toArray.any (Gw s.heap d) = aU.any (Gw s.heap d) by simp,Pl I hall r]
 exact q
end
theorem Fl {k:Nat} {A:Around} (hr:Cb k A):A.units + 20 < cLine:=by have:=hr.units; omega
section
variable {X:Cx}
theorem V8 {e:Expr} {t:TE} (h:PE X e t):PE X e (fun σ H Q=>∃ N:VK,t σ H N /\ ∀ v H',N v H' -> Q v H'):=by
 intro pins s σ H Q I z
 obtain ⟨N,z,m⟩ := z
 refine Bv (h pins s σ H N I z) fun v s1 z1=>?_
 obtain ⟨x,H1,I1,r1,q1⟩ := z1
 exact ⟨x,H1,I1,r1,m _ _ q1⟩
end
def Mn:HO -> Prop
 | .dK _=>True
 | .dT _=>True
 | _=>False
section
variable {X:Cx} {pins:List (Addr × Obj)} {σ:St} {H:Hp} {s:Shared} {d:Addr}
theorem Ai.swap {v u:HO} (I:Ai X pins σ H s) (e:H d = some v) (n1:∀ xs,v ≠ .tup xs) (n2:∀ ps,v ≠ .so ps) (n3:∀ y,v ≠ .own y) (n4:∀ o u,X.H₀ d ≠ some (.eM o u)) (ok:Bl X.prog X.w (upd H d u) s.heap d u):Ai X pins σ (upd H d u) s:=by
 have ht:∀ b xs,H b = some (.tup xs) -> (upd H d u) b = some (.tup xs):=fun b xs z=>by
  rw [A8 (fun y=>by rw [y,e] at z; exact n1 _ (Option.some.inj z))]
  exact z
 have hn:∀ b,H b = none -> (upd H d u) b = none:=fun b z=>by
  rw [A8 (fun y=>by rw [y,e] at z; cases z)]
  exact z
 refine ⟨I.ok,I.os,I.bare,⟨I.base.keep,I.base.slot,fun b o q n hx=>hn b (I.base.free b o q n hx),I.base.there,fun b xs q=>ht b xs (I.base.fS b xs q),fun b o x q=>?_,fun b ps q=>?_⟩,I.loc,I.cell,hn _ I.free,fun x c z=>hn c (I.dW x c z),fun p hp=>?_,fun b o q=>?_,I.len⟩
 ·have hb : b ≠ d := fun y => by
   rw [y] at q
   exact n4 o x q
  rw [A8 hb]
  exact I.base.fL b o x q
 ·obtain ⟨m,z⟩ := I.base.fT b ps q
  refine ⟨m,?_⟩
  rw [A8 (fun y=>by rw [y,e] at z; exact n2 _ (Option.some.inj z))]
  exact z
 ·obtain ⟨a,b,c⟩ := I.pin p hp
  exact ⟨a,hn _ b,c⟩
 ·by_cases hb:b = d
  ·subst hb
   rw [A1] at q
   cases q
   exact ok
  ·rw [A8 hb] at q
   refine (I.aS b o q).gQ (fun _ _ _ z=>z) (fun c z=>?_) ht
   rw [A8 (fun y=>by rw [y,e] at z; exact n3 _ (Option.some.inj z))]
   exact z
theorem Ai.JB {v:HO} (I:Ai X pins σ H s) (e:H d = some v) (hv:Mn v):∀ o u,X.H₀ d ≠ some (.eM o u):=fun o u z=>by
 have y:=I.base.fL d o u z
 rw [e] at y
 cases y
 exact hv
theorem Ai.eM {v:HO} (I:Ai X pins σ H s) (e:H d = some v) (hv:Mn v):∃ o,s.heap.get? d = some o /\ Ai X pins σ (upd H d (.eM o v)) s:=by
 have aS:=I.aS d v e
 obtain ⟨o,ho⟩ : ∃ o,s.heap.get? d = some o:=by
  cases v with
  | dK kvs=>obtain ⟨_,_,_,_,o,_,_,z,_⟩ := aS; exact ⟨o,z⟩
  | dT kvs=>obtain ⟨_,_,_,_,o,_,_,z,_⟩ := aS; exact ⟨o,z⟩
  | _=>exact hv.elim
 have n1:∀ xs,v ≠ .tup xs:=fun xs z=>by rw [z] at hv; exact hv
 have n2:∀ ps,v ≠ .so ps:=fun ps z=>by rw [z] at hv; exact hv
 have n3:∀ y,v ≠ .own y:=fun y z=>by rw [z] at hv; exact hv
 refine ⟨o,ho,I.swap e n1 n2 n3 (I.JB e hv) ⟨ho,aS.gQ (fun _ _ _ z=>z) (fun c z=>?_) (fun b xs z=>?_)⟩⟩
 ·rw [A8 (fun y=>by rw [y,e] at z; exact n3 _ (Option.some.inj z))]
  exact z
 ·rw [A8 (fun y=>by rw [y,e] at z; exact n1 _ (Option.some.inj z))]
  exact z
theorem Ai.UI {v:HO} {o:Obj} (I:Ai X pins σ H s) (e:H d = some (.eM o v)) (n4:∀ o u,X.H₀ d ≠ some (.eM o u)):Ai X pins σ (upd H d v) s:=by
 refine I.swap e (fun _ z=>nomatch z) (fun _ z=>nomatch z) (fun _ z=>nomatch z) n4 ((I.aS d _ e).2.gQ (fun _ _ _ z=>z) (fun c z=>?_) (fun b xs z=>?_))
 ·rw [A8 (fun y=>by rw [y,e] at z; cases z)]
  exact z
 ·rw [A8 (fun y=>by rw [y,e] at z; cases z)]
  exact z
end
def jb (t:TS):TS:=fun D σ H=>∃ d u,Mn u /\ H d = some u /\ t { D with nx:=fun σ' H'=>∃ o,H' d = some (.eM o u) /\ D.nx σ' (upd H' d u) } σ H
section
variable {X:Cx}
theorem Ol {st:Stmt} {t:TS} (h:PS X st t):PS X st (jb t):=by
 intro pins s σ H D I z
 obtain ⟨d,u,hu,e,z⟩ := z
 have n4:=I.JB e hu
 refine Bv (h pins s σ H _ I z) fun f s1 q=>?_
 cases f with
 | next =>
  obtain ⟨σ',H',I',o,e',q'⟩ := q
  exact ⟨σ',_,I'.UI e' n4,q'⟩
 | brk=>exact q
 | cont=>exact q
 | ret v=>exact q
end
section
variable {P:Program} {w:World} {A:Around} {E:Value -> Shared -> Prop} {s:Shared}
theorem Wb {d : Addr} {o : Obj} {Q : Value -> Shared -> Prop} (hs : (d == sysModules) = false) (ho : s.heap.get? d = some o) (hx : o.ExactDict)
  (h:Q (.ref s.heap.objs.size) { s with heap:=s.heap.push { cls := .type "dict_items",data := .fields #[.ref d] } }):wpAny (model P w) A (call (.builtin "dict.items") [.ref d]) Q E s:=by
 have hT:s.TypeIs (.ref d) "dict" := ⟨o,ho,hx.1⟩
 refine wpAny_call_entry F.slot_dict_items hT F.entry_dict_items ?_ (F.args_dict_items_1 _)
 unfold Builtin.«dict.items» Builtin.Dict.noArgs
 refine wpAny_bind (wpAny_bind (wpAny_notOrdered_dict hT ?_))
 refine wpAny_bind (wpAny_of_eq (a:=()) rfl ?_)
 refine wpAny_bind (wpAny_of_eq (a:=Value.ref d) rfl ?_)
 refine wpAny_of_eq (a:=d) rfl ?_
 refine wpAny_bind ?_
 unfold Builtin.Dict.showsAll
 rw [hs,if_neg Bool.false_ne_true]
 refine wpAny_pure ?_
 refine wpAny_bind ?_
 unfold newFields
 exact wpAny_newObj_type (wpAny_pure ⟨_,rfl,h⟩)
theorem Yo {v d : Addr} {o : Obj} {es : Array DictEntry} {ep : Nat} {Q : Value -> Shared -> Prop} (hv : s.heap.IsItemsView v d) (ho : s.heap.get? d = some o) (pf : o.data = .dict es ep)
  (h:Q (.ref s.heap.objs.size) { s with heap:=s.heap.push { cls := .type "dict_itemiterator",data := .fields #[.none,.bool false,.ref d,.int 0 0,.int es.size 0,.int ep 0,.none,.none] } }):wpAny (model P w) A (pyIter (.ref v)) Q E s:=by
 obtain ⟨ov,QX,hc,hd⟩ := hv
 have hT:s.TypeIs (.ref v) "dict_items" := ⟨ov,QX,hc⟩
 refine wpAny_pyIter_slot hT F.slot_dict_items_iter (wpAny_call_entry F.slot_dict_items_iter hT F.entry_dict_items_iter ?_ (F.args_dict_items_iter_1 _))
 unfold Builtin.«dict_items.__iter__» Builtin.Dict_items.slot0 Builtin.Dict_items.dictOf Builtin.Dict_items.newIterator
 refine wpAny_bind (wpAny_bind (wpAny_of_eq (a:=(Value.ref v,[])) rfl (wpAny_pure ?_)))
 refine wpAny_bind (wpAny_bind (wpAny_field QX hd (x := .ref d) rfl (wpAny_of_eq (a:=d) rfl ?_)))
 refine wpAny_bind (wpAny_bind (wpAny_dictEntries ho pf (wpAny_bind (wpAny_dictEpoch ho pf ?_))))
 show wpAny (model P w) _ (newObj (.type "dict_itemiterator") (.fields #[.none,.bool false,.ref d,.int 0 0,.int es.size 0,.int ep 0,.none,.none]) none) _ _ _
 refine wpAny_newObj_type (wpAny_pure ⟨_,rfl,"dict_itemiterator",_,⟨_,Heap.get?_push_size _ rfl,rfl⟩,F.slot_dict_itemiterator_next.lookup,h⟩)
theorem aq {it d : Addr} {i ep : Nat} {es : Array DictEntry} {ok ov : Value} {o : Obj} {Q : Option Value -> Shared -> Prop} (hh : A.handled = none) (hit : IsItemIter s.heap it d i es.size ep ok ov) (IZ : s.heap.get? d = some o) (pf : o.data = .dict es ep)
  (he:es[i]? = none) (hQ:∀ h',Heap.ExtBut it s.heap h' -> Q none { s with heap:=h' }):wpAny (model P w) A (pyNext (.ref it)) Q E s:=by
 have hT:s.TypeIs (.ref it) "dict_itemiterator" := ⟨_,hit,rfl⟩
 have own:Builtin.Dict_items.ownsTuple "dict_itemiterator" = true:=by decide
 unfold pyNext; refine wpAny_bind (wpAny_attempt (wpAny_callSpecial?_slot (name:=Str.ofString "__next__") hT F.slot_dict_itemiterator_next (wpAny_call_entry F.slot_dict_itemiterator_next hT F.entry_dict_itemiterator_next ?_ (F.args_dict_itemiterator_next_1 _))))
 refine wpAny_bind (wpAny_pure (wpAny_bind (wpAny_bind (wpAny_bind (wpAny_typeNameOfWhole_itemiter hT (wpAny_pure (wpAny_bind (wpAny_fieldsOf hit rfl ?_))))))))
 simp only [own,if_true]; show wpAny _ _ (if (Value.ref d == Value.none) = true then _ else _) _ _ s
 rw [if_neg (show ¬ (Value.ref d == Value.none) = true from Bool.false_ne_true)]; refine wpAny_bind (wpAny_pure (wpAny_bind (wpAny_dictEntries IZ pf ?_)))
 rw [if_neg (show ¬ ((es.size:Int) != (es.size:Int)) = true by simp)]; refine wpAny_bind (wpAny_pure (wpAny_bind (wpAny_dictEpoch IZ pf ?_)))
 rw [if_neg (show ¬ ((ep:Int) != (ep:Int)) = true by simp)]; refine wpAny_pure ?_
 simp only [show ¬ ((i:Int) < 0) by omega,if_false,Int.toNat_natCast,he]
 refine wpAny_bind (wpAny_bind (wpAny_typeNameOfWhole_itemiter hT (wpAny_pure ?_)))
 show wpAny _ _ (setField (.ref it) 2 Value.none >>= _) _ _ s
 refine wpAny_bind (wpAny_setField hit rfl (by simp) ?_)
 generalize hg:Heap.update s.heap it (Obj.mapFields (·.setIfInBounds 2 Value.none)) = h2
 have eb:Heap.ExtBut it s.heap h2:=by
  rw [<- hg]
  exact fun b ob hb e=>(Heap.get?_update_other _ _ (Ne.symm hb)).trans e
 show wpAny (model P w) _ (newExc (.type "StopIteration") [] >>= _) _ _ { s with heap:=h2 }
 refine wpAny_bind ?_; simp only [newExc,newTuple]
 refine wpAny_bind (wpAny_newObj_type (T := "tuple") ?_ (by size_fits))
 refine wpAny_bind (m:=firstArgMember _ _) (wpAny_of_eq (a:=Value.none) (by first | rfl | simp only [firstArgMember]) ?_)
 refine wpAny_newObj_type (T := "StopIteration") ?_ (by size_fits)
 simp only [raiseNew]; refine wpAny_bind (wpAny_handled ?_)
 first | rw [show A.in1.handled = Option.none from hh] | rw [hh]
 refine wpAny_bind (wpAny_pure (wpAny_throw ?_)); refine wpAny_bind (wpAny_isInstance (T := "StopIteration") (b:=true) ⟨_,Heap.get?_push_size _ rfl,rfl⟩ isSubtype_stop ?_)
 exact wpAny_pure (hQ _ ((eb.push _).push _))
end
theorem Uh:entryFor table "dict_itemiterator.__iter__" = some Builtin.«dict_keyiterator.__iter__» :=
 entryFor_alias (id' := "dict_keyiterator.__iter__") (by kernel_rfl) (by first | rfl | decide +kernel | (unfold String.splitOn; simp +decide [String.splitOnAux])) (by decide +kernel) (by kernel_rfl)
def kd:HO -> Hp -> Nat -> V -> V -> Prop
 | .dT kvs,H,i,x,y=>∃ k b,kvs[i]? = some (k,y) /\ x = .ref b /\ G3 H b k
 | .dK kvs,_,i,x,y=>∃ k,kvs[i]? = some (k,y) /\ x = kV k
 | _,_,_,_,_=>False
def D6:HO -> Nat
 | .dT kvs=>kvs.length
 | .dK kvs=>kvs.length
 | _=>0
def ad (d:Addr) (o:Obj) (u:HO):It :=
 ⟨fun i H=>H d = some (.eM o u) /\ i < D6 u,fun i H v H'=>∃ T x y,v = .ref T /\ H T = none /\ H' = upd H T (.tup [x,y]) /\ kd u H i x y,fun i H=>H d = some (.eM o u) /\ D6 u <= i⟩
theorem Z5 {P:Program} {w:World} {k:Dt} {u:Value} (h:(D7 P w).is k u = true):B4 (kV k) u:=by
 have h':Gu k u = true:=h
 cases k with
 | inl i =>
  cases u <;> simp [Gu,Value.isInt] at h'
  subst h'
  exact ⟨_,rfl⟩
 | inr x =>
  cases u <;> simp [Gu,Value.isStrOf] at h'
  subst h'
  exact ⟨_,rfl⟩
theorem Gi {α β:Type} {F:α -> β -> Prop}:∀ {xs:List α} {ys:List β} {i:Nat},Paired F xs ys -> i < xs.length -> ∃ x y,xs[i]? = some x /\ ys[i]? = some y /\ F x y
 | _,_,i,.nil,h=>absurd h (by simp)
 | _,_,0,.cons r _,_=>⟨_,_,rfl,rfl,r⟩
 | _,_,i + 1,.cons _ t,h=>by
  obtain ⟨x,y,e1,e2,e3⟩ := Gi (i:=i) t (by simpa using h)
  exact ⟨x,y,by simpa using e1,by simpa using e2,e3⟩
theorem Rv {α β:Type} {F:α -> β -> Prop} {xs:List α} {ys:List β} (h:Paired F xs ys):xs.length = ys.length:=by
 induction h with
 | nil=>rfl
 | cons r t ih=>rw [List.length_cons,List.length_cons,ih]
theorem Ms {P:Program} {w:World} {K:Type} [DecidableEq K] {knd:PySem.KeyKind P w K}:∀ {es:List DictEntry} {vs:List (K × Value)} {i:Nat} {kv:K × Value},Pairs knd es vs -> vs[i]? = some kv -> ∃ e,es[i]? = some e /\ knd.is kv.1 e.key = true /\ e.val = kv.2
 | _,_,i,kv,.nil,h=>by simp at h
 | _,_,0,kv,.cons h1 h2 _,h=>by
  cases (show some _ = some _ from h)
  exact ⟨_,rfl,h1,h2⟩
 | _,_,i + 1,kv,.cons _ _ t,h=>by
  obtain ⟨e,e1,e2⟩ := Ms t (i:=i) (by simpa using h)
  exact ⟨e,by simpa using e1,e2⟩
theorem V7 {P:Program} {w:World} {K:Type} [DecidableEq K] {knd:PySem.KeyKind P w K} {es:List DictEntry} {vs:List (K × Value)} (h:Pairs knd es vs):es.length = vs.length:=by
 induction h with
 | nil=>rfl
 | cons r q t ih=>rw [List.length_cons,List.length_cons,ih]
theorem Wg {P : Program} {w : World} {H : Hp} {h : Heap} {d : Addr} {o : Obj} {u : HO} {es : Array DictEntry} {ep : Nat} (ok : Bl P w H h d u) (hu : Mn u) (ho : h.get? d = some o) (hd : o.data = .dict es ep) :
  es.size = D6 u /\ ∀ i,i < D6 u -> ∃ e x y,es[i]? = some e /\ B4 x e.key /\ B4 y e.val /\ kd u H i x y:=by
 cases u with
 | dT kvs =>
  obtain ⟨_,_,xs,r,o',sL,sM,h1,h2,h3,h4,h5⟩ := ok
  rw [ho] at h1
  cases h1
  rw [hd] at h3
  cases h3
  have hl:=Rv r
  refine ⟨?_,fun i hi=>?_⟩
  ·show es.size = kvs.length
   rw [<- Array.length_toList,h4,List.length_map,hl]
  ·obtain ⟨p,q,e1,e2,e3,e4,e5⟩ := Gi r hi
   refine ⟨entryOfKey (Cs P w) q,.ref q.2.1,p.2,?_,rfl,e5,p.1,q.2.1,e1,rfl,e4⟩
   rw [<- Array.getElem?_toList,h4,List.getElem?_map,e2]
   rfl
 | dK kvs =>
  obtain ⟨_,_,vs,r,o',sL,sM,h1,h2,h3,h4,h5,h6⟩ := ok
  rw [ho] at h1
  cases h1
  rw [hd] at h3
  cases h3
  have hl:kvs.length = vs.length:=r.length
  refine ⟨?_,fun i hi=>?_⟩
  ·show es.size = kvs.length
   rw [<- Array.length_toList,V7 h5,hl]
  ·obtain ⟨p,q,e1,e2,e3⟩ := Gi r hi
   obtain ⟨e,f1,f2,f3⟩ := Ms h5 e2
   refine ⟨e,kV p.1,p.2,by rw [<- Array.getElem?_toList]; exact f1,?_,?_,p.1,e1,rfl⟩
   ·rw [e3.1]
    exact Z5 f2
   ·rw [f3]
    exact e3.2
 | _=>exact hu.elim
theorem Sz {P : Program} {w : World} {K : PySem.W.Frag} {elts : List Expr} {kk : Nat} {pos : Pos} {it d : Addr} {o : Obj} {u : HO} {es : Array DictEntry} {ep : Nat} (hu : Mn u) (hd : o.data = .dict es ep) (eZ : d ≠ it) :
  Pk P w K (.Tuple elts kk pos) (ad d o u) [it] it (fun i h=>∃ ok ov,IsItemIter h it d i es.size ep ok ov) where
 mem:=by simp
 obj:=fun i h ⟨ok,ov,st⟩ b hb=>by
  have e:b = it:=by simpa using hb
  subst e
  exact ⟨_,st,fun v z=>by cases z⟩
 keep:=fun i h h' ⟨ok,ov,st⟩ k=>⟨ok,ov,k it (by simp) _ st⟩
 item:=by
  intro X hP hw hK hc i pins s σ H E I hf ⟨ok,ov,st⟩ ⟨mP,hg2⟩
  subst hP hw hK
  obtain ⟨ho,aS⟩ := I.aS d _ mP
  obtain ⟨hsz,sV⟩ := Wg aS hu ho hd
  obtain ⟨e,x,y,e1,rx,ry,hi⟩ := sV i hg2
  have dE:it < s.heap.objs.size:=Heap.lt_size st
  refine Wc st ho hd e1 fun h' a1 a2 a3=>⟨_,rfl,?_⟩
  refine wpAny_letOwnedTupleGo_items (s:={ s with heap:=h' }) a1 fun TZ b1 b2=>?_
  have IQ:TZ.get? s.heap.objs.size = some { cls := .type "tuple",data := .seq #[e.key,e.val] }:=b2.extBut _ _ (Nat.ne_of_gt dE) a2
  refine ⟨.ref s.heap.objs.size,upd H s.heap.objs.size (.tup [x,y]),I.lI (t':=s.toks) (ch:=[it]) hf (fun c ob hc e=>?_) (Nat.le_refl _) ?_,rfl,⟨_,x,y,rfl,I.fresh,rfl,hi⟩,⟨_,_,b1⟩,fun c hc=>?_⟩
  ·have oP:c ≠ it:=by simpa using hc
   exact b2.extBut _ _ oP (a3 c ob oP e)
  ·exact ⟨⟨Nat.le_trans (by decide:2 <= 1000) (Tt (Nat.le_refl _)),_,IQ,rfl⟩,[e.key,e.val],.cons rx (.cons ry .nil),⟨_,IQ,rfl,0,rfl⟩⟩
  ·have oP:c = it:=by simpa using hc
   subst oP
   rw [A8 (Nat.ne_of_lt dE)]
   exact (hf c hc).1
 done:=by
  intro X hP hw hK hc i pins s σ H E I hf ⟨ok,ov,st⟩ ⟨mP,hg2⟩
  subst hP hw hK
  obtain ⟨ho,aS⟩ := I.aS d _ mP
  obtain ⟨hsz,sV⟩ := Wg aS hu ho hd
  refine aq (I.ok.hd hc) st ho hd (Array.getElem?_eq_none (by omega)) fun h' eb=>⟨rfl,I.lJ (t':=s.toks) (ch:=[it]) hf fun c ob hc e=>?_⟩
  have oP:c ≠ it:=by simpa using hc
  exact eb c ob oP e
 self:=fun A i s Q E ⟨ok,ov,st⟩ hQ=>by
  have hT:s.TypeIs (.ref it) "dict_itemiterator" := ⟨_,st,rfl⟩
  refine wpAny_pyIter_slot hT F.slot_dict_itemiterator_iter (wpAny_call_entry F.slot_dict_itemiterator_iter hT Uh ?_ (F.args_dict_itemiterator_iter_1 _))
  exact wpAny_pure ⟨_,rfl,"dict_itemiterator",_,hT,F.slot_dict_itemiterator_next.lookup,hQ⟩
section
variable {X:Cx}
def b7 (td:TE):TI:=fun σ H R=>td σ H fun x H1=>∃ d u,x = .ref d /\ Mn u /\ H1 d = some u /\ ∀ o,R (ad d o u) (upd H1 d (.eM o u))
theorem L4 {elts : List Expr} {kk : Nat} {ot apos pos : Pos} {e : Expr} {td : TE} (he : PE X e td) (oZ : attributeBase e "items" X.env (eval e X.env) = eval e X.env := by rfl) (p0 : (apos.endLine == pos.line) = true := by rfl) :
  PI X (.Tuple elts kk ot) (.Call (.Attribute e "items" apos) [] [] pos) (b7 td):=by
 intro pins s σ H R I h
 refine wpAny_Call_method0_late oZ p0 (Bv (he pins s σ H _ I h) fun v s1 dG=>?_)
 obtain ⟨x,H1,I1,r1,d,u,ex,hu,hd,q⟩ := dG
 subst ex
 obtain rfl:v = Value.ref d:=r1
 obtain ⟨o,ho,I2⟩ := I1.eM hd hu
 obtain ⟨es,ep,hx,pf,UJ⟩ : ∃ es ep,o.ExactDict /\ o.data = .dict es ep /\ (d == sysModules) = false:=by
  have aS:=I1.aS d u hd
  cases u with
  | dT kvs =>
   obtain ⟨_,y,xs,r,o',sL,sM,h1,h2,h3,_⟩ := aS
   rw [ho] at h1
   cases h1
   exact ⟨sL,sM,h2,h3,y⟩
  | dK kvs =>
   obtain ⟨_,y,vs,r,o',sL,sM,h1,h2,h3,_⟩ := aS
   rw [ho] at h1
   cases h1
   exact ⟨sL,sM,h2,h3,y⟩
  | _=>exact hu.elim
 have hT:s1.TypeIs (.ref d) "dict" := ⟨o,ho,hx.1⟩
 refine ⟨"dict","dict.items",PySem.F.plainAttrs_dict,PySem.F.slot_dict_items,PySem.F.type_dict_items,hT,?_,Calls.callWith_builtin rfl (PySem.evalArgs_none (Wb UJ ho hx ?_))⟩
 ·intro a z
  cases z
  exact ⟨o,ho,hx.2.1⟩
 have QX:(s1.heap.push { cls := .type "dict_items",data := .fields #[.ref d] }).get? d = some o:=Heap.get?_push_of_some _ ho
 refine Yo (s:={ s1 with heap:=s1.heap.push { cls := .type "dict_items",data := .fields #[.ref d] } }) ⟨_,Heap.get?_push_size _ rfl,rfl,rfl⟩ QX pf ?_
 have hk:∀ b ob,s1.heap.get? b = some ob -> ((s1.heap.push { cls := .type "dict_items",data := .fields #[.ref d] }).push { cls := .type "dict_itemiterator",data := .fields #[.none,.bool false,.ref d,.int 0 0,.int es.size 0,.int ep 0,.none,.none] }).get? b = some ob:=fun b ob z=>Heap.get?_push_of_some _ (Heap.get?_push_of_some _ z)
 have hsz:(s1.heap.push { cls := .type "dict_items",data := .fields #[.ref d] }).objs.size = s1.heap.objs.size + 1:=by simp [Heap.push]
 have hdl:d < s1.heap.objs.size:=Heap.lt_size ho
 refine ⟨_,[_],_,ad d o u,upd H1 d (.eM o u),rfl,I2.kept (t':=s1.toks) hk,Sz (es:=es) (ep:=ep) hu pf ?_,⟨.none,.none,Heap.get?_push_size _ rfl⟩,fun c hc=>?_,q o⟩
 ·rw [hsz]
  exact Nat.ne_of_lt (Nat.lt_succ_of_lt hdl)
 ·have hle : s1.heap.objs.size <= c := by
   have:c = (s1.heap.push { cls := .type "dict_items",data := .fields #[.ref d] }).objs.size:=by simpa using hc
   rw [this,hsz]
   omega
  exact I2.mI hle (I2.aS.fresh hle)
end
theorem Mj {o : Obj} {u : HO} {d : Addr} {g : TG} {tb : TS} {D : Hq} {σ : St} {H : Hp} (Pv : Nat -> St -> Hp -> Prop) (h0 : Pv 0 σ H) (hl : ∀ i σ H, i <= D6 u -> Pv i σ H -> H d = some (.eM o u))
  (hs:∀ i x y T σ H,i < D6 u -> kd u H i x y -> Pv i σ H -> H T = none -> g (.ref T) σ (upd H T (.tup [x,y])) fun σ2 H2=>tb { D with nx:=Pv (i + 1),ct:=Pv (i + 1),bk:=D.nx } σ2 H2) (hd:∀ σ H,Pv (D6 u) σ H -> D.nx σ H) :
  ∃ W:Nat -> Nat -> St -> Hp -> Prop,(∃ m,W 0 m σ H) /\ ∀ i m σ H,W i m σ H ->
   ((ad d o u).stop i H /\ D.nx σ H) \/ ((ad d o u).go i H /\ ∃ N:St -> Hp -> Prop,(∀ σ' H',N σ' H' -> ∃ m',m' < m /\ W (i + 1) m' σ' H') /\ ∀ x H',(ad d o u).vX i H x H' -> g x σ H' fun σ2 H2=>tb { D with nx:=N,ct:=N,bk:=D.nx } σ2 H2):=by
 refine ⟨fun i m σ H=>m = D6 u - i /\ i <= D6 u /\ Pv i σ H,⟨D6 u,by simp,Nat.zero_le _,h0⟩,?_⟩
 rintro i m σ H ⟨rfl,hi,p⟩
 have q1:=hl i σ H hi p
 by_cases dE:i < D6 u
 ·refine .inr ⟨⟨q1,dE⟩,Pv (i + 1),fun σ' H' p'=>⟨D6 u - (i + 1),by omega,rfl,dE,p'⟩,fun v H' y=>?_⟩
  obtain ⟨T,x,z,rfl,hT,rfl,e1⟩ := y
  exact hs i x z T σ H dE e1 p hT
 ·have e:i = D6 u:=by omega
  subst e
  exact .inl ⟨⟨q1,Nat.le_refl _⟩,hd σ H p⟩
theorem Rb {K : PySem.W.Frag} {o : Obj} {u : HO} {d : Addr} {fr : List Nat} {tt : TT} {te : TE} {σ : St} {D : Addr} {H1 : Hp} {Q : Hp -> Prop} (Pv : Nat -> List V -> Hp -> Prop) (h0 : Pv 0 [] (upd H1 D (.lst [])))
  (hl:∀ i zs H,i <= D6 u -> Pv i zs H -> H d = some (.eM o u))
  (hs:∀ i x y T zs H,i < D6 u -> kd u H i x y -> Pv i zs H -> H T = none -> tt (some x :: some y :: Cz fr σ) (upd H T (.tup [x,y])) fun b H4 =>
   if b = true then te (some x :: some y :: Cz fr σ) H4 fun v H5=>H5 D = some (.lst zs) /\ zs.length < sizeLine /\ Pv (i + 1) (zs ++ [v]) (upd H5 D (.lst (zs ++ [v]))) else Pv (i + 1) zs H4)
  (mt:∀ σ H Q Q',(∀ b H',Q b H' -> Q' b H') -> tt σ H Q -> tt σ H Q') (me:∀ σ H Q Q',(∀ v H',Q v H' -> Q' v H') -> te σ H Q -> te σ H Q')
  (hd:∀ zs H,Pv (D6 u) zs H -> Q H):Di 2 fr (ad d o u) (i0 K) tt te σ D H1 Q:=by
 refine ⟨fun i m zs H=>m = D6 u - i /\ i <= D6 u /\ Pv i zs H,⟨D6 u,by simp,Nat.zero_le _,h0⟩,?_⟩
 rintro i m zs H' ⟨rfl,hi,p⟩
 have q1:=hl i zs H' hi p
 by_cases dE:i < D6 u
 ·refine .inr ⟨⟨q1,dE⟩,fun v H2 y=>?_⟩
  obtain ⟨T,x,z,rfl,hT,rfl,e1⟩ := y
  refine ⟨T,_,rfl,Bw.of A1,rfl,x,_,rfl,z,_,rfl,rfl,⟨[some x,some z],rfl,rfl⟩,?_⟩
  refine mt _ _ _ _ ?_ (hs i x z T zs H' dE e1 p hT)
  intro b H4 q
  cases b with
  | false=>exact ⟨D6 u - (i + 1),by omega,rfl,dE,q⟩
  | true=>exact me _ _ _ _ (fun v H5 ⟨r1,r2,r3⟩=>⟨r1,r2,D6 u - (i + 1),by omega,rfl,dE,r3⟩) q
 ·have e:i = D6 u:=by omega
  subst e
  exact .inl ⟨⟨q1,Nat.le_refl _⟩,hd zs H' p⟩
section
variable {prog:Program} {w:World} {K:Type} [DecidableEq K] {knd:HeapKind prog w K} {A:Around} {E:Value -> Shared -> Prop} {s:Shared} {d a:Addr} {k:K} {xs:List (K × Addr × Value)}
theorem Ut {v:Value} (hn:(xs.map (·.1)).Nodup) (wq:k ∉ xs.map (·.1)):((xs ++ [(k,a,v)]).map (·.1)).Nodup:=by
 rw [List.map_append,List.nodup_append]
 refine ⟨hn,by simp,fun x hx y hy=>?_⟩
 have e:y = k:=by simpa using hy
 rw [e]
 exact fun e=>wq (e ▸ hx)
theorem Xz {dflt : Value} {Q : Value -> Shared -> Prop} (hu : knd.room A) (mJ : knd.is s.heap k a) (hm : s.heap.DictOfH knd d xs) (hsz : xs.length <= sizeLine)
  (h1:∀ p,atKey xs k = some p -> Q p.2 { s with toks:=s.toks + knd.draws k })
  (h2:atKey xs k = none -> ∀ h',h'.DictOfH knd d (xs ++ [(k,a,dflt)]) -> Heap.SameBut d s.heap h' -> Q dflt { s with heap:=h',toks:=s.toks + knd.draws k }) :
  wpAny (model prog w) A (dictSetDefault d (.ref a) dflt) Q E s:=by
 obtain ⟨o,es,ep,ho,hc,hd,he,his,hn⟩ := hm
 unfold dictSetDefault
 try with_reducible refine wpAny_holding ?_
 refine wpAny_bind (knd.pyHash hu mJ ?_)
 refine wpAny_bind (wpAny_dictFind_heap (s:={ s with toks:=s.toks + knd.draws k }) hu mJ ho hd he his hn ?_ ?_)
 ·intro iI
  have wq:k ∉ xs.map (·.1):=not_mem_keys_of_get iI
  have sV:=atKey_none_of_get iI
  have hz:es.size <= sizeLine:=by
   have e:=size_of_entries he
   omega
  refine wpAny_bind (wpAny_rule (wpAny_bind (wpAny_updateDictKeys (hz:=hz) (s:={ s with toks:=s.toks + knd.draws k }) ho hd (wpAny_pure (h2 sV _
   ⟨_,_,ep + 1,Heap.get?_update_self _ ho (Obj.isFreed_of_dict (Obj.data_mapDictKeys hd _)),hc.mapDictKeys _,Obj.data_mapDictKeys hd _,?_,?_,Ut hn wq⟩ (Heap.SameBut.update ..))))))
  ·simp [he,entryOfKey]
  ·intro x hx
   rcases List.mem_append.mp hx with hx | hx
   ·exact knd.keeps (his x hx) ho hd (Heap.SameBut.update ..)
   ·cases List.mem_singleton.mp hx
    exact knd.keeps mJ ho hd (Heap.SameBut.update ..)
 ·intro j p hj
  have sV:=atKey_of_get hn hj
  refine wpAny_bind (wpAny_dictEntries (s:={ s with toks:=s.toks + knd.draws k }) ho hd ?_)
  rw [entry_at he j,hj]
  exact wpAny_bind (wpAny_rule (wpAny_pure (h1 p sV)))
theorem Rq (hd : (d == sysModules) = false) (dflt : Value) :
  MeetsIn prog w (Builtin.«dict.setdefault» ⟨[.ref d,.ref a,dflt],[]⟩) (fun A R s=>knd.room A.in1 /\ ∃ k xs,knd.is s.heap k a /\ s.heap.DictOfH knd d xs /\ xs.length <= sizeLine /\
   (∀ p,atKey xs k = some p -> R (.ok (.ret p.2)) { s with toks:=s.toks + knd.draws k }) /\
   (atKey xs k = none -> ∀ h',h'.DictOfH knd d (xs ++ [(k,a,dflt)]) -> Heap.SameBut d s.heap h' -> R (.ok (.ret dflt)) { s with heap:=h',toks:=s.toks + knd.draws k })) :=
 .of_wp fun A R s ⟨hu,k,xs,mJ,hm,hz,h1,h2⟩=>by
  unfold Builtin.«dict.setdefault» Builtin.Dict.keyAndDefault
  refine wpAny_bind (wpAny_bind (wpAny_notOrdered_dict hm.typeIs ?_))
  show wpAny _ _ (pure (d,Value.ref a,some dflt)) _ _ s
  refine wpAny_pure ?_
  show wpAny _ _ (if (d == sysModules) = true then _ else (dictSetDefault d (.ref a) dflt >>= _)) _ _ s
  rw [if_neg (by rw [hd]; exact Bool.false_ne_true)]
  exact wpAny_bind (Xz hu mJ hm hz (fun p hp=>wpAny_pure ⟨p.2,rfl,h1 p hp⟩) fun hn h' jS IL=>wpAny_pure ⟨dflt,rfl,h2 hn h' jS IL⟩)
end
section
variable {X:Cx} {pins:List (Addr × Obj)} {σ:St} {H:Hp} {s:Shared} {a b:Addr} {kvs:List ((List Int × Int) × V)} {k:List Int × Int} {z:V} {r:Value} {A:Around} {E:Value -> Shared -> Prop}
theorem gz {Q : Value -> Shared -> Prop} (hu : A.units + 20 < cLine) (I : Ai X pins σ H s) (e : H a = some (.dT kvs)) (eb : G3 H b k) (hl : kvs.length < sizeLine) (rz : B4 z r)
  (h1:∀ v w' s',Ao kvs k = some v -> Ai X pins σ H s' -> B4 v w' -> Q w' s') (h2:Ao kvs k = none -> ∀ s',Ai X pins σ (upd H a (.dT (C8 kvs k z))) s' -> Q r s') :
  wpAny (model X.prog X.w) A (call (.builtin "dict.setdefault") [.ref a,.ref b,r]) Q E s:=by
 obtain ⟨z0,hd,xs,rel,dd⟩ := Zt I.aS e
 have hz:xs.length <= sizeLine:=by rw [<- Paired.length rel]; exact z0
 have hv:=rel.val k
 refine call_meetsIn PySem.F.slot_dict_setdefault dd.typeIs PySem.F.entry_dict_setdefault (PySem.F.args_dict_setdefault_3 _ _ _) (Rq (knd:=Cs X.prog X.w) hd r) ⟨E6 hu,k,xs,Hz I.aS eb,dd,hz,fun p hp=>?_,fun hn h' sU hs=>?_⟩
 ·rw [hp] at hv
  cases e2:Ao kvs k with
  | none=>rw [e2] at hv; exact hv.elim
  | some v =>
   rw [e2] at hv
   exact h1 v p.2 _ e2 (I.tok _) hv
 ·rw [hn] at hv
  cases e2:Ao kvs k with
  | some v=>rw [e2] at hv; exact hv.elim
  | none =>
   have hp:C8 kvs k z = kvs ++ [(k,z)]:=Hf z e2
   refine h2 e2 _ ?_
   rw [hp]
   obtain ⟨q,es,ep,hq,g2,g3,g4,_,g5⟩ := sU
   refine Ju I (by rw [e]; exact True.intro) hs ⟨q,hq⟩ ⟨by rw [List.length_append,List.length_singleton]; omega,hd,_,KT.keeps (Paired.snoc rel ⟨rfl,eb,rz⟩) (fun c ys ec=>?_),q,es,ep,hq,g2,g3,g4,g5⟩
   rw [A8 (Bb ec e (fun z=>nomatch z))]
   exact ec
end
def jt (td ty tx:TE):TE:=fun σ H Q=>td σ H fun x H1=>∃ a,x = .ref a /\ ka H1 a /\ ty σ H1 fun y H2=>tx σ H2 fun z H3=>∃ kvs k b,y = .ref b /\ G3 H3 b k /\ H3 a = some (.dT kvs) /\ kvs.length < sizeLine /\
 (∀ v,Ao kvs k = some v -> Q v H3) /\ (Ao kvs k = none -> Q z (upd H3 a (.dT (C8 kvs k z))))
section
variable {X:Cx} {o e f:Expr} {apos dH:Pos} {td ty tx:TE}
theorem Zb (hu:X.A.units + 20 < cLine) (ho:PE X o td) (he:PE X e ty) (hf:PE X f tx) (m:M2 X o "setdefault" apos e f dH):PE X (.Call (.Attribute o "setdefault" apos) [e,f] [] dH) (jt td ty tx):=by
 intro pins s σ H Q I h
 refine wpAny_Call_method m.base m.GR m.line PySem.F.plainAttrs_dict PySem.F.slot_dict_setdefault PySem.F.type_dict_setdefault (Bv (ho pins s σ H _ I h) fun u s1 dG=>?_)
 obtain ⟨x,H1,I1,rx,a,ex,d,q1⟩ := dG
 subst ex
 obtain rfl:u = Value.ref a:=rx
 obtain ⟨t1,t2,_⟩ := Ri I1 d
 refine ⟨t1,t2,?_⟩
 rw [m.trees]
 refine Calls.callWith_builtin rfl (Calls.evalArgs_plain (Calls.spliced_cons (Bv (he pins s1 σ H1 _ I1 q1) fun iv s2 ⟨y,H2,I2,ry,q2⟩ =>
  Calls.spliced_cons (Bv (hf pins s2 σ H2 _ I2 q2) fun fv s3 ⟨z,H3,I3,rz,kvs,k,b,ey,eb,ea,hl,q3,q4⟩=>Calls.spliced_nil ?_))))
 subst ey
 obtain rfl:iv = Value.ref b:=ry
 exact gz hu I3 ea eb hl rz (fun v w' s4 hv I4 lH=>⟨v,H3,I4,lH,q3 v hv⟩) fun hn s4 I4=>⟨z,_,I4,rz,q4 hn⟩
theorem To {a : Expr} {ta : TE} (ha : PE X a ta) (he : ∀ whole, isTrue a X.env whole = (do let v <- whole; standAt a.pos; holding [v] (truthy v)) := by intro _; rfl) :
  PT X a (fun σ H Q=>ta σ H fun x H'=>∃ d kvs,x = .ref d /\ Rd H' d (.dK kvs) /\ Q (!kvs.isEmpty) H'):=by
 intro pins s σ H Q I h
 refine isTrue_plain (Bv (ha pins s σ H _ I h) fun v s1 ⟨x,H1,I1,r1,d,kvs,ex,hd,q1⟩=>?_) (he _)
 subst ex
 obtain rfl:v = Value.ref d:=r1
 obtain ⟨z,hs,vs,rel,dd⟩ := Ke I1.aS hd
 have hl:kvs.length = vs.length:=rel.length
 have h24:sizeLine < 2 ^ 30:=by decide
 refine wpAny_truthy_dict hs dd (by omega) ⟨H1,I1.tok _,?_⟩
 have e:kvs.isEmpty = vs.isEmpty:=by
  cases kvs <;> cases vs <;> simp at hl <;> rfl
 rw [<- e]
 exact q1
end
open PySem PySem.Spec PyProof.Rows PySem.SeqAt
def aa (A:Around) (s:Shared) (x y:Value) (b:Bool):Prop := ∀ (prog:Program) (w:World) (E:Value -> Shared -> Prop) (Q:Value -> Shared -> Prop),Q (.bool b) s -> wpAny (model prog w) A (richCompare .Gt x y) Q E s
theorem gb (l b : Addr) (xs ys : Array Value) (n n2 : Nat) (dd GL : Option Addr) (sl GN : Array (Option Value)) (e : Nat -> Bool) (r : Bool) :
  Meets (Builtin.«tuple.__gt__» ⟨[.ref l,.ref b],[]⟩)
   (fun A R s=>s.heap.get? l = some { cls := .type "tuple",dict:=dd,data := .seq xs n,slots:=sl } /\ s.heap.get? b = some { cls := .type "tuple",dict:=GL,data := .seq ys n2,slots:=GN } /\
    (∀ j (h1:j < xs.size) (h2:j < ys.size),EqAt A.in1 s xs[j] ys[j] (e j)) /\ (∀ j (h1:j < xs.size) (h2:j < ys.size),(∀ i,i < j -> e i = true) -> e j = false -> aa A.in1 s xs[j] ys[j] r) /\
    ((∀ j,j < min xs.size ys.size -> e j = true) -> r = decide (xs.size > ys.size)) /\ R (.ok (.ret (.bool r))) s) :=
 .of_wp fun prog w A R s h=>by
  obtain ⟨hp,g,d,tk,os⟩ := s
  obtain ⟨hl,hb,he,hf,hz,h⟩ := h
  have f2:=AutoSeq1.sub_tuple_tuple
  have hZ:(xs.toList.zip ys.toList).length = min xs.size ys.size:=by simp
  wp_walk using wpAny_loadPart' hl,wpAny_loadPart' hb,wpAny_forIn_list _ (fun rest b s'=>b.1 = none /\ s' = ⟨hp,g,d,tk,os⟩ /\ ∃ i,rest = (xs.toList.zip ys.toList).drop i /\ ∀ k,k < i -> k < min xs.size ys.size -> e k = true) _
  case turn =>
   rintro ⟨y,x⟩ rest b s' ⟨sy,rfl,i,hq,hR⟩
   have dE:i < (xs.toList.zip ys.toList).length:=by
    apply Classical.byContradiction
    intro z
    rw [List.drop_of_length_le (by omega)] at hq
    cases hq
   have h1:i < xs.size:=by omega
   have h2:i < ys.size:=by omega
   rw [List.drop_eq_getElem_cons dE] at hq
   injection hq with IU pe
   have hy:y = xs[i]:=by simpa using congrArg Prod.fst IU
   have hx:x = ys[i]:=by simpa using congrArg Prod.snd IU
   subst hy hx
   refine wpAny_bind (he i h1 h2 prog w _ _ ?_)
   cases hy:e i with
   | true =>
    wp_walk
    refine ⟨rfl,rfl,i + 1,pe,fun k hk IV=>?_⟩
    by_cases z:k = i
    ·rw [z]
     exact hy
    ·exact hR k (by omega) IV
   | false =>
    have tZ:=hf i h1 h2 (fun k hk=>hR k hk (by omega)) hy prog w
    wp_walk using tZ _ _
    exact ⟨_,rfl,h⟩
  case fin =>
   rintro ⟨b1,b2⟩ s' ⟨sy,rfl,i,hq,hR⟩
   simp only at sy
   subst sy
   have hge:min xs.size ys.size <= i:=by
    apply Classical.byContradiction
    intro z
    rw [List.drop_eq_getElem_cons (by omega)] at hq
    cases hq
   have hr:=hz fun j hj=>hR j (by omega) hj
   wp_walk
   refine ⟨_,rfl,?_⟩
   rw [hr] at h
   simpa [Builtin.Tuple.tupleCompareSizes] using h
  case h =>
   exact ⟨rfl,rfl,0,rfl,fun k hk=>absurd hk (Nat.not_lt_zero k)⟩
mutual
def Vr:PyData -> PyData -> Bool
 | .int a,.int b=>decide (a > b)
 | .tuple xs,.tuple ys=>dN xs ys
 | _,_=>false
def dN:List PyData -> List PyData -> Bool
 | [],[]=>false
 | [],_ :: _=>false
 | _ :: _,[]=>true
 | x :: xs,y :: ys=>if PyData.eqv x y then dN xs ys else Vr x y
end
theorem Mm:∀ (xs ys:List PyData),(∀ j,j < min xs.length ys.length -> pairEq xs ys j = true) -> dN xs ys = decide (xs.length > ys.length)
 | [],[],_=>rfl
 | [],y :: ys,_=>by simp [dN]
 | x :: xs,[],_=>by simp [dN]
 | x :: xs,y :: ys,h=>by
  have h0:PyData.eqv x y = true:=h 0 (by simp only [List.length_cons]; omega)
  have ih:=Mm xs ys fun j hj=>h (j + 1) (by simp only [List.length_cons]; omega)
  rw [dN,if_pos h0,ih]
  simp
mutual
theorem Q5 : ∀ (da db : PyData) (A : Around) (s : Shared) (a b : Value) (as bs : List Addr), Reads s.heap a da as -> Reads s.heap b db bs -> da.canLay0 = true -> db.canLay0 = true -> Ho da db ->
  A.units + min da.depth db.depth < cLine -> aa A s a b (Vr da db)
 | .int x,db,A,s,_,_,_,_,ra,rb,_,_,hc,hu=>by
  cases db with
  | int y =>
   cases ra with
   | int _ t =>
    cases rb with
    | int _ u =>
     intro prog w E Q h
     exact richCompare_gives (op := .Gt) (typeIs_int s _ t) (typeIs_int s _ u) F.slot_int_gt F.entry_int_gt (F.args_int_gt_2 _ _) (gives_int_gt _ _ t u) (fun z=>nomatch z) h
  | none=>exact hc.elim
  | bool _=>exact hc.elim
  | str _=>exact hc.elim
  | list _=>exact hc.elim
  | tuple _=>exact hc.elim
  | dict _=>exact hc.elim
 | .tuple xs,db,A,s,_,_,_,_,ra,rb,ha,hb,hc,hu=>by
  cases db with
  | tuple ys =>
   cases ra with
   | @tuple l o vs n _ as₁ h1 h2 h3 h4 =>
    cases rb with
    | @tuple l' o' sx n' _ bs₁ k1 k2 k3 k4 =>
     obtain ⟨oc,od,UD,lG⟩ := o
     obtain ⟨oc',UE,UG,wm⟩ := o'
     simp only at h2 h3 k2 k3
     subst h2 h3 k2 k3
     have n1:vs.size = xs.length:=by simpa using ReadsAll.length _ _ _ h4
     have n2:sx.size = ys.length:=by simpa using ReadsAll.length _ _ _ k4
     intro prog w E Q h
     refine richCompare_meets_room (op := .Gt) ⟨_,h1,rfl⟩ ⟨_,k1,rfl⟩ F.slot_tuple_gt F.entry_tuple_gt (F.args_tuple_gt_2 _ _) (gb l l' vs sx n n' od UE lG wm (pairEq xs ys) (dN xs ys)) ⟨h1,k1,fun j j1 j2=>?_,fun j j1 j2 f1 f2=>?_,fun f=>?_,(fun z=>nomatch z),h⟩ (room_here hu)
     ·have:=eqAt_readsAll xs ys A.in1 s vs.toList sx.toList _ _ h4 k4 ha hb (room_in hu) j (by simpa using j1) (by simpa using j2)
      simpa using this
     ·have:=iC xs ys A.in1 s vs.toList sx.toList _ _ h4 k4 ha hb hc (room_in hu) j (by simpa using j1) (by simpa using j2) f1 f2
      simpa using this
     ·rw [n1,n2] at f ⊢
      exact Mm xs ys f
  | none=>exact hc.elim
  | bool _=>exact hc.elim
  | str _=>exact hc.elim
  | list _=>exact hc.elim
  | int _=>exact hc.elim
  | dict _=>exact hc.elim
 | .none,_,_,_,_,_,_,_,_,_,_,_,hc,_=>hc.elim
 | .bool _,_,_,_,_,_,_,_,_,_,_,_,hc,_=>hc.elim
 | .str _,_,_,_,_,_,_,_,_,_,_,_,hc,_=>hc.elim
 | .list _,_,_,_,_,_,_,_,_,_,_,_,hc,_=>hc.elim
 | .dict _,_,_,_,_,_,_,_,_,_,_,_,hc,_=>hc.elim
theorem iC : ∀ (xs ys : List PyData) (A : Around) (s : Shared) (vs ws : List Value) (as bs : List Addr), ReadsAll s.heap vs xs as -> ReadsAll s.heap ws ys bs -> PyData.canLayAll0 xs = true -> PyData.canLayAll0 ys = true -> fW xs ys ->
  A.units + min (PyData.depthAll xs) (PyData.depthAll ys) < cLine -> ∀ j (h1:j < vs.length) (h2:j < ws.length),(∀ i,i < j -> pairEq xs ys i = true) -> pairEq xs ys j = false -> aa A s vs[j] ws[j] (dN xs ys)
 | [],_,_,_,_,_,_,_,ra,_,_,_,_,_,j,h1,_,_,_=>by cases ra; exact absurd h1 (Nat.not_lt_zero _)
 | _ :: _,[],_,_,_,_,_,_,_,rb,_,_,_,_,j,_,h2,_,_=>by cases rb; exact absurd h2 (Nat.not_lt_zero _)
 | x :: xs,y :: ys,A,s,_,_,_,_,ra,rb,ca,cb,hc,hu,j,h1,h2,f1,f2=>by
  cases ra with
  | cons r1 r2 =>
   cases rb with
   | cons q1 q2 =>
    have IW:x.canLay0 = true /\ PyData.canLayAll0 xs = true:=by simpa [PyData.canLayAll0] using ca
    have IX:y.canLay0 = true /\ PyData.canLayAll0 ys = true:=by simpa [PyData.canLayAll0] using cb
    have hd:A.units + min x.depth y.depth < cLine /\ A.units + min (PyData.depthAll xs) (PyData.depthAll ys) < cLine:=by
     simp only [PyData.depthAll] at hu
     omega
    cases j with
    | zero =>
     have e:dN (x :: xs) (y :: ys) = Vr x y:=by
      have f3:PyData.eqv x y = false:=f2
      rw [dN,f3]
      rfl
     rw [e]
     exact Q5 x y A s _ _ _ _ r1 q1 IW.1 IX.1 hc.1 hd.1
    | succ j =>
     have e:dN (x :: xs) (y :: ys) = dN xs ys:=by
      have f3:PyData.eqv x y = true:=f1 0 (Nat.succ_pos _)
      rw [dN,f3]
      rfl
     rw [e]
     exact iC xs ys A s _ _ _ _ r2 q2 IW.2 IX.2 hc.2 hd.2 j (Nat.lt_of_succ_lt_succ h1) (Nat.lt_of_succ_lt_succ h2) (fun i hi=>f1 (i + 1) (Nat.succ_lt_succ hi)) f2
end
section
variable {X:Cx} {k:Nat}
def mz:R2:=fun x y H Q=>∃ d e:PyData,Rp H d x /\ Rp H e y /\ Ho d e /\ d.depth <= 60 /\ Q (.bl (Vr d e)) H
end
open PySem PySem.Spec PyProof.Rows PySem.SeqAt
theorem Du (bt:Nat -> Nat -> Bool) (j:Nat):argBest bt (j + 1) = if bt (j + 1) (argBest bt j) = true then j + 1 else argBest bt j:=by
 first
  | rfl
  | (show (if bt (j + 1) (argBest bt j) then j + 1 else argBest bt j) = _; rfl)
section
variable {prog:Program} {w:World} {A:Around} {R:Result -> Shared -> Prop} {I S:Addr} {fp wr:List Addr} {St:Nat -> Heap -> Prop} {aU:Array Value} {bt:Nat -> Nat -> Bool} {Good:Heap -> Prop}
theorem Op {a : Args} {s : Shared} (h : wpAny (model prog w) A.in1 (Builtin.«min.loop» a) (fun fin s' => match fin with
   | .done f=>R (.ok f) s'
   | .again c'=>c'.quiet = true /\ codeAny (model prog w) A c' R s') (fun e s'=>R (.error e) s') s):codeAny (model prog w) A (.builtin "min.loop" a) R s:=by
 refine codeAny_builtin F.entry_min_loop ?_; rw [Around.under_plainId F.plain_min_loop _]
 exact h
theorem Zf (W : Walks prog w A.in1 I fp wr aU.size (fun i v => aU[i]? = some v) St) (hG : ∀ h h', Good h -> (∀ b o, b ∉ wr -> b ≠ S -> h.get? b = some o -> h'.get? b = some o) -> Good h')
  (hc:∀ i j vi vj (s:Shared),Good s.heap -> aU[i]? = some vi -> aU[j]? = some vj -> ∀ E Q,Q (.bool (bt i j)) s -> wpAny (model prog w) A.in1 (richCompare .Lt vi vj) Q E s) (oz:S ∉ fp) :
  ∀ (k j:Nat) (s:Shared) (vb:Value) (c:Nat),aU.size = j + 1 + k -> St (j + 1) s.heap -> Good s.heap -> aU[argBest bt j]? = some vb ->
  s.heap.get? S = some { cls := .type "list",dict:=none,data := .seq #[vb,vb] c,slots := #[] } ->
  (∀ v h' tk,aU[argBest bt (aU.size - 1)]? = some v -> (∀ b o,b ∉ wr -> b ≠ S -> s.heap.get? b = some o -> h'.get? b = some o) -> R (.ok (.ret v)) { s with heap:=h',toks:=tk }) ->
  codeAny (model prog w) A (.builtin "min.loop" ⟨[.ref I,.none,.ref S],[]⟩) R s:=by
 have sW:S ∉ wr:=fun z=>oz (W.sub _ z)
 have nm:(toString "min" ++ toString ".loop" : String) = "min.loop" := by decide
 intro k
 induction k with
 | zero =>
  intro j s vb c hk eP hg ph hS hR
  refine Op ?_
  refine wpAny_bind ( wpAny_seqItems hS rfl ?_)
  show wpAny (model prog w) A.in1 (tryCatch (pyNext (.ref I)) _ >>= _) _ _ s
  have ej:j + 1 = aU.size:=by omega
  refine wpAny_bind (wpAny_tryCatch (W.done s _ _ (ej ▸ eP) fun h1 sX k1=>?_))
  have lL:=k1 S _ sW hS
  show wpAny (model prog w) A.in1 (updateSeq S (fun _=>#[]) >>= _) _ _ _
  refine wpAny_bind ?_
  refine wpAny_updateSeq lL rfl (wpAny_bind (wpAny_letGo (wpAny_pure ?_)))
  have e2:aU.size - 1 = j:=by omega
  exact hR vb _ sX (by rw [e2]; exact ph) fun b o z1 z2 e=>(Heap.get?_update_other _ _ (Ne.symm z2)).trans (k1 b o z1 e)
 | succ k ih =>
  intro j s vb c hk eP hg ph hS hR
  refine Op ?_
  refine wpAny_bind ( wpAny_seqItems hS rfl ?_)
  show wpAny (model prog w) A.in1 (tryCatch (pyNext (.ref I)) _ >>= _) _ _ s
  refine wpAny_bind (wpAny_tryCatch (W.item (j + 1) s _ _ (by omega) eP fun v h1 sX hP sY k1=>?_))
  have lL:=k1 S _ sW hS
  have mP:Good h1:=hG _ _ hg fun b o z1 _ e=>k1 b o z1 e
  refine wpAny_bind (wpAny_pure ?_)
  refine wpAny_bind (wpAny_tryCatch (wpAny_holding (wpAny_bind ?_)))
  refine hc (j + 1) (argBest bt j) v vb { s with heap:=h1,toks:=sX } mP hP ph _ _ ?_
  refine wpAny_bind (wpAny_holding (wpAny_truthy_bool ?_))
  refine wpAny_bind (wpAny_letGo (wpAny_pure ?_))
  have eb:=Du bt j
  cases hb:bt (j + 1) (argBest bt j) with
  | true =>
   rw [hb,if_pos rfl] at eb
   simp only [if_true]
   refine wpAny_bind ?_
   refine wpAny_updateSeq lL rfl (wpAny_bind (wpAny_letGo ?_))
   rw [nm]
   refine wpAny_pure ⟨plainId_quiet F.plain_min_loop _,ih (j + 1) _ v _ (by omega) (W.frame _ _ _ sY fun b z o e=>?_) (hG _ _ mP fun b o z1 z2 e=>(Heap.get?_update_other _ _ (Ne.symm z2)).trans e) (by rw [eb]; exact hP) (Heap.get?_update_self _ lL rfl) fun v2 h2 pj top2 k2=>?_⟩
   ·exact (Heap.get?_update_other _ _ (fun y:S = b=>oz (by rw [y]; exact z))).trans e
   ·exact hR v2 h2 pj top2 fun b o z1 z2 e=>k2 b o z1 z2 ((Heap.get?_update_other _ _ (Ne.symm z2)).trans (k1 b o z1 e))
  | false =>
   rw [hb,if_neg Bool.false_ne_true] at eb
   simp only [Bool.false_eq_true,if_false]
   refine wpAny_bind (wpAny_letGo ?_)
   rw [nm]
   refine wpAny_pure ⟨plainId_quiet F.plain_min_loop _,ih (j + 1) _ vb c (by omega) sY mP (by rw [eb]; exact ph) lL fun v2 h2 pj top2 k2=>?_⟩
   exact hR v2 h2 pj top2 fun b o z1 z2 e=>k2 b o z1 z2 (k1 b o z1 e)
theorem S0 (W : Walks prog w A.in1 I fp wr aU.size (fun i v => aU[i]? = some v) St) (hG : ∀ h h', Good h -> (∀ b o, b ∉ wr -> b ≠ S -> h.get? b = some o -> h'.get? b = some o) -> Good h')
  (hc:∀ i j vi vj (s:Shared),Good s.heap -> aU[i]? = some vi -> aU[j]? = some vj -> ∀ E Q,Q (.bool (bt i j)) s -> wpAny (model prog w) A.in1 (richCompare .Lt vi vj) Q E s) (oz:S ∉ fp) {s:Shared} {c:Nat} (eP:St 0 s.heap) (hg:Good s.heap)
  (hS:s.heap.get? S = some { cls := .type "list",dict:=none,data := .seq #[] c,slots := #[] }) (hn:0 < aU.size)
  (hR:∀ v h' tk,aU[argBest bt (aU.size - 1)]? = some v -> (∀ b o,b ∉ wr -> b ≠ S -> s.heap.get? b = some o -> h'.get? b = some o) -> R (.ok (.ret v)) { s with heap:=h',toks:=tk }) :
  codeAny (model prog w) A (.builtin "min.loop" ⟨[.ref I,.none,.ref S],[]⟩) R s:=by
 have sW:S ∉ wr:=fun z=>oz (W.sub _ z)
 have nm:(toString "min" ++ toString ".loop" : String) = "min.loop" := by decide
 refine Op ?_
 refine wpAny_bind ( wpAny_seqItems hS rfl ?_)
 show wpAny (model prog w) A.in1 (tryCatch (pyNext (.ref I)) _ >>= _) _ _ s
 refine wpAny_bind (wpAny_tryCatch (W.item 0 s _ _ hn eP fun v h1 sX hP sY k1=>?_))
 have lL:=k1 S _ sW hS
 have mP:Good h1:=hG _ _ hg fun b o z1 _ e=>k1 b o z1 e
 show wpAny (model prog w) A.in1 (updateSeq S (fun _=>#[v,v]) >>= _) _ _ _
 refine wpAny_bind ?_
 refine wpAny_updateSeq lL rfl ?_
 rw [nm]
 refine wpAny_pure ⟨plainId_quiet F.plain_min_loop _,Zf W hG hc oz (aU.size - 1) 0 _ v _ (by omega) (W.frame _ _ _ sY fun b z o e=>?_) (hG _ _ mP fun b o z1 z2 e=>(Heap.get?_update_other _ _ (Ne.symm z2)).trans e) hP (Heap.get?_update_self _ lL rfl) fun v2 h2 pj top2 k2=>?_⟩
 ·exact (Heap.get?_update_other _ _ (fun y:S = b=>oz (by rw [y]; exact z))).trans e
 ·exact hR v2 h2 pj top2 fun b o z1 z2 e=>k2 b o z1 z2 ((Heap.get?_update_other _ _ (Ne.symm z2)).trans (k1 b o z1 e))
end
section
variable {prog:Program} {w:World} {A:Around} {R:Result -> Shared -> Prop} {I S:Addr} {fp wr:List Addr} {St:Nat -> Heap -> Prop} {aU:Array Value} {bt:Nat -> Nat -> Bool} {Good:Heap -> Prop}
theorem Oo {a : Args} {s : Shared} (h : wpAny (model prog w) A.in1 (Builtin.«max.loop» a) (fun fin s' => match fin with
   | .done f=>R (.ok f) s'
   | .again c'=>c'.quiet = true /\ codeAny (model prog w) A c' R s') (fun e s'=>R (.error e) s') s):codeAny (model prog w) A (.builtin "max.loop" a) R s:=by
 refine codeAny_builtin F.entry_max_loop ?_; rw [Around.under_plainId F.plain_max_loop _]
 exact h
theorem Ze (W : Walks prog w A.in1 I fp wr aU.size (fun i v => aU[i]? = some v) St) (hG : ∀ h h', Good h -> (∀ b o, b ∉ wr -> b ≠ S -> h.get? b = some o -> h'.get? b = some o) -> Good h')
  (hc:∀ i j vi vj (s:Shared),Good s.heap -> aU[i]? = some vi -> aU[j]? = some vj -> ∀ E Q,Q (.bool (bt i j)) s -> wpAny (model prog w) A.in1 (richCompare .Gt vi vj) Q E s) (oz:S ∉ fp) :
  ∀ (k j:Nat) (s:Shared) (vb:Value) (c:Nat),aU.size = j + 1 + k -> St (j + 1) s.heap -> Good s.heap -> aU[argBest bt j]? = some vb ->
  s.heap.get? S = some { cls := .type "list",dict:=none,data := .seq #[vb,vb] c,slots := #[] } ->
  (∀ v h' tk,aU[argBest bt (aU.size - 1)]? = some v -> (∀ b o,b ∉ wr -> b ≠ S -> s.heap.get? b = some o -> h'.get? b = some o) -> R (.ok (.ret v)) { s with heap:=h',toks:=tk }) ->
  codeAny (model prog w) A (.builtin "max.loop" ⟨[.ref I,.none,.ref S],[]⟩) R s:=by
 have sW:S ∉ wr:=fun z=>oz (W.sub _ z)
 have nm:(toString "max" ++ toString ".loop" : String) = "max.loop" := by decide
 intro k
 induction k with
 | zero =>
  intro j s vb c hk eP hg ph hS hR
  refine Oo ?_
  refine wpAny_bind ( wpAny_seqItems hS rfl ?_)
  show wpAny (model prog w) A.in1 (tryCatch (pyNext (.ref I)) _ >>= _) _ _ s
  have ej:j + 1 = aU.size:=by omega
  refine wpAny_bind (wpAny_tryCatch (W.done s _ _ (ej ▸ eP) fun h1 sX k1=>?_))
  have lL:=k1 S _ sW hS
  show wpAny (model prog w) A.in1 (updateSeq S (fun _=>#[]) >>= _) _ _ _
  refine wpAny_bind ?_
  refine wpAny_updateSeq lL rfl (wpAny_bind (wpAny_letGo (wpAny_pure ?_)))
  have e2:aU.size - 1 = j:=by omega
  exact hR vb _ sX (by rw [e2]; exact ph) fun b o z1 z2 e=>(Heap.get?_update_other _ _ (Ne.symm z2)).trans (k1 b o z1 e)
 | succ k ih =>
  intro j s vb c hk eP hg ph hS hR
  refine Oo ?_
  refine wpAny_bind ( wpAny_seqItems hS rfl ?_)
  show wpAny (model prog w) A.in1 (tryCatch (pyNext (.ref I)) _ >>= _) _ _ s
  refine wpAny_bind (wpAny_tryCatch (W.item (j + 1) s _ _ (by omega) eP fun v h1 sX hP sY k1=>?_))
  have lL:=k1 S _ sW hS
  have mP:Good h1:=hG _ _ hg fun b o z1 _ e=>k1 b o z1 e
  refine wpAny_bind (wpAny_pure ?_)
  refine wpAny_bind (wpAny_tryCatch (wpAny_holding (wpAny_bind ?_)))
  refine hc (j + 1) (argBest bt j) v vb { s with heap:=h1,toks:=sX } mP hP ph _ _ ?_
  refine wpAny_bind (wpAny_holding (wpAny_truthy_bool ?_))
  refine wpAny_bind (wpAny_letGo (wpAny_pure ?_))
  have eb:=Du bt j
  cases hb:bt (j + 1) (argBest bt j) with
  | true =>
   rw [hb,if_pos rfl] at eb
   simp only [if_true]
   refine wpAny_bind ?_
   refine wpAny_updateSeq lL rfl (wpAny_bind (wpAny_letGo ?_))
   rw [nm]
   refine wpAny_pure ⟨plainId_quiet F.plain_max_loop _,ih (j + 1) _ v _ (by omega) (W.frame _ _ _ sY fun b z o e=>?_) (hG _ _ mP fun b o z1 z2 e=>(Heap.get?_update_other _ _ (Ne.symm z2)).trans e) (by rw [eb]; exact hP) (Heap.get?_update_self _ lL rfl) fun v2 h2 pj top2 k2=>?_⟩
   ·exact (Heap.get?_update_other _ _ (fun y:S = b=>oz (by rw [y]; exact z))).trans e
   ·exact hR v2 h2 pj top2 fun b o z1 z2 e=>k2 b o z1 z2 ((Heap.get?_update_other _ _ (Ne.symm z2)).trans (k1 b o z1 e))
  | false =>
   rw [hb,if_neg Bool.false_ne_true] at eb
   simp only [Bool.false_eq_true,if_false]
   refine wpAny_bind (wpAny_letGo ?_)
   rw [nm]
   refine wpAny_pure ⟨plainId_quiet F.plain_max_loop _,ih (j + 1) _ vb c (by omega) sY mP (by rw [eb]; exact ph) lL fun v2 h2 pj top2 k2=>?_⟩
   exact hR v2 h2 pj top2 fun b o z1 z2 e=>k2 b o z1 z2 (k1 b o z1 e)
theorem Rz (W : Walks prog w A.in1 I fp wr aU.size (fun i v => aU[i]? = some v) St) (hG : ∀ h h', Good h -> (∀ b o, b ∉ wr -> b ≠ S -> h.get? b = some o -> h'.get? b = some o) -> Good h')
  (hc:∀ i j vi vj (s:Shared),Good s.heap -> aU[i]? = some vi -> aU[j]? = some vj -> ∀ E Q,Q (.bool (bt i j)) s -> wpAny (model prog w) A.in1 (richCompare .Gt vi vj) Q E s) (oz:S ∉ fp) {s:Shared} {c:Nat} (eP:St 0 s.heap) (hg:Good s.heap)
  (hS:s.heap.get? S = some { cls := .type "list",dict:=none,data := .seq #[] c,slots := #[] }) (hn:0 < aU.size)
  (hR:∀ v h' tk,aU[argBest bt (aU.size - 1)]? = some v -> (∀ b o,b ∉ wr -> b ≠ S -> s.heap.get? b = some o -> h'.get? b = some o) -> R (.ok (.ret v)) { s with heap:=h',toks:=tk }) :
  codeAny (model prog w) A (.builtin "max.loop" ⟨[.ref I,.none,.ref S],[]⟩) R s:=by
 have sW:S ∉ wr:=fun z=>oz (W.sub _ z)
 have nm:(toString "max" ++ toString ".loop" : String) = "max.loop" := by decide
 refine Oo ?_
 refine wpAny_bind ( wpAny_seqItems hS rfl ?_)
 show wpAny (model prog w) A.in1 (tryCatch (pyNext (.ref I)) _ >>= _) _ _ s
 refine wpAny_bind (wpAny_tryCatch (W.item 0 s _ _ hn eP fun v h1 sX hP sY k1=>?_))
 have lL:=k1 S _ sW hS
 have mP:Good h1:=hG _ _ hg fun b o z1 _ e=>k1 b o z1 e
 show wpAny (model prog w) A.in1 (updateSeq S (fun _=>#[v,v]) >>= _) _ _ _
 refine wpAny_bind ?_
 refine wpAny_updateSeq lL rfl ?_
 rw [nm]
 refine wpAny_pure ⟨plainId_quiet F.plain_max_loop _,Ze W hG hc oz (aU.size - 1) 0 _ v _ (by omega) (W.frame _ _ _ sY fun b z o e=>?_) (hG _ _ mP fun b o z1 z2 e=>(Heap.get?_update_other _ _ (Ne.symm z2)).trans e) hP (Heap.get?_update_self _ lL rfl) fun v2 h2 pj top2 k2=>?_⟩
 ·exact (Heap.get?_update_other _ _ (fun y:S = b=>oz (by rw [y]; exact z))).trans e
 ·exact hR v2 h2 pj top2 fun b o z1 z2 e=>k2 b o z1 z2 ((Heap.get?_update_other _ _ (Ne.symm z2)).trans (k1 b o z1 e))
end
open PySem PySem.Spec PyProof.Rows PySem.SeqAt
theorem Ii {H:Hp}:∀ {ds:List PyData} {us:List V} {i:Nat} {d:PyData},cL H ds us -> ds[i]? = some d -> ∃ u,us[i]? = some u /\ Rp H d u
 | [],_,i,d,_,e=>by simp at e
 | x :: ds,us,0,d,h,e=>by
  unfold cL at h
  obtain ⟨u,us',rfl,h1,_⟩ := h
  cases e
  exact ⟨u,rfl,h1⟩
 | x :: ds,us,i + 1,d,h,e=>by
  unfold cL at h
  obtain ⟨u,us',rfl,_,h2⟩ := h
  obtain ⟨u2,e1,e2⟩ := Ii (i:=i) h2 (by simpa using e)
  exact ⟨u2,by simpa using e1,e2⟩
theorem Et {H:Hp}:∀ {ds:List PyData} {us:List V},cL H ds us -> us.length = ds.length
 | [],us,h=>by
  unfold cL at h
  rw [h]
  rfl
 | x :: ds,us,h=>by
  unfold cL at h
  obtain ⟨u,us',rfl,_,h2⟩ := h
  rw [List.length_cons,List.length_cons,Et h2]
theorem Hn {xs:List V} {us:List Value} {i:Nat} {u:Value} (r:B2 xs us) (h:us[i]? = some u):∃ x,xs[i]? = some x /\ B4 x u:=by
 have hi:=(List.getElem?_eq_some_iff.mp h).1
 have hl:=r.length
 obtain ⟨u2,e1,e2⟩ := r.get (List.getElem?_eq_getElem (show i < xs.length by omega))
 rw [h] at e1
 cases e1
 exact ⟨_,List.getElem?_eq_getElem (by omega),e2⟩
section
variable {X:Cx} {k:Nat}
theorem Ux (a:Value):argsOk "min" ⟨[a],[]⟩ := by
 unfold argsOk
 kernel_rfl
def Js (ds:List PyData):Nat:=argBest (fun i j=>R3 (ds.getD i .none) (ds.getD j .none)) (ds.length - 1)
theorem am {pins : List (Addr × Obj)} {s : Shared} {σ : St} {H : Hp} {us : List V} {aU : List Value} {ds : List PyData} (hr : Cb k X.A) (I : Ai X pins σ H s) (rv : B2 us aU) (hd : cL H ds us) (lM : ∀ d ∈ ds, ∀ e ∈ ds, Ho d e) (wu : ∀ d ∈ ds, d.depth <= 50) (i j : Nat) (vi vj : Value) (s' : Shared)
  (hk:∀ b o,s.heap.get? b = some o -> s'.heap.get? b = some o) (h1:aU.toArray[i]? = some vi) (h2:aU.toArray[j]? = some vj) (E Q:Value -> Shared -> Prop) (q:Q (.bool (R3 (ds.getD i .none) (ds.getD j .none))) s'):wpAny (model X.prog X.w) X.A.in1 (richCompare .Lt vi vj) Q E s':=by
 have hl:=Et hd
 have get:∀ (m:Nat) (vm:Value),aU.toArray[m]? = some vm -> ∃ x,B4 x vm /\ Rp H (ds.getD m .none) x /\ ds.getD m .none ∈ ds:=fun m vm h=>by
  obtain ⟨x,e1,e2⟩ := Hn rv (by simpa using h)
  have hm:m < ds.length:=by
   have:=(List.getElem?_eq_some_iff.mp e1).1
   omega
  have e3:ds[m]? = some (ds.getD m .none):=by
   rw [List.getD_eq_getElem?_getD,List.getElem?_eq_getElem hm]
   rfl
  obtain ⟨x2,f1,f2⟩ := Ii hd e3
  rw [e1] at f1
  cases f1
  exact ⟨x,e2,f2,List.mem_of_getElem? e3⟩
 obtain ⟨x,rx,px,mx⟩ := get i vi h1
 obtain ⟨y,ry,py,my⟩ := get j vj h2
 have I':Ai X pins σ H { s with heap:=s'.heap,toks:=s'.toks }:=I.kept (t':=s'.toks) hk
 obtain ⟨as,q1⟩ := Cj I' _ x vi px rx
 obtain ⟨bs,q2⟩ := Cj I' _ y vj py ry
 have hu:=hr.units
 have d1:=wu _ mx
 exact Ko _ _ X.A.in1 s' vi vj as bs q1 q2 (Cw _ x px) (Cw _ y py) (lM _ mx _ my) (by show X.A.units + 1 + _ < _; omega) _ _ _ _ q
def j6 (K:PySem.W.Frag):List V -> Hp -> VK -> Prop:=fun xs H Q=>∃ (p:Addr) (us:List V) (ds:List PyData),xs = [.ref p] /\ B5 K H p us /\ cL H ds us /\ 0 < us.length /\ (∀ d ∈ ds,∀ e ∈ ds,Ho d e) /\ (∀ d ∈ ds,d.depth <= 50) /\ ∀ v,us[Js ds]? = some v -> Q v H
theorem U9 (K:PySem.W.Frag) (hr:Cb k X.A) (hc:X.calm = true) (hK:X.K = K:=by rfl):D2 X (.builtin "min") (j6 K):=by
 subst hK
 intro pins s σ H xs us0 Q I r h
 obtain ⟨p,us,ds,rfl,hq,hd,eZ,lM,wu,q⟩ := h
 obtain ⟨u,rfl,rx⟩ := Ff r
 cases rx
 obtain ⟨aU,rv,pl,hz⟩ := I.list hq
 have hl:=Et hd
 have JC:=rv.length
 have nm:(toString "min" ++ toString ".loop" : String) = "min.loop" := by decide
 refine Mf (args:=⟨[.ref p],[]⟩) F.kind_min F.plain_min F.entry_min (Ux _) ?_
 show wpAny (model X.prog X.w) X.A.in1 (Builtin.Builtins.bindParams "min" ["key","default"] 0 ⟨[],[]⟩ >>= _) _ _ s
 refine wpAny_bind (wpAny_of_eq (show Builtin.Builtins.bindParams "min" ["key","default"] 0 ⟨[],[]⟩ = pure [none,none] from ?_) ?_)
 ·kernel_rfl
 refine wpAny_bind (wpAny_pure ?_)
 refine wpAny_bind (wpAny_pyIter_list pl.isList ?_)
 refine wpAny_bind (wpAny_newObj_type ?_)
 rw [nm]
 refine wpAny_pure ⟨plainId_quiet F.plain_min_loop _,?_⟩
 have pk:p < s.heap.objs.size:=pl.lt
 have W:=Walks.list (prog:=X.prog) (w:=X.w) (A:=X.A.in1) (I.ok.hd hc) s.heap.objs.size p (Nat.ne_of_lt pk) aU.toArray
 have hsz:(s.heap.push { cls := .type "list_iterator",data := .fields #[.ref p,.int 0 0] }).objs.size = s.heap.objs.size + 1:=by simp [Heap.push]
 refine S0 (S:=(s.heap.push { cls := .type "list_iterator",data := .fields #[.ref p,.int 0 0] }).objs.size) (bt:=fun i j=>R3 (ds.getD i .none) (ds.getD j .none)) (Good:=fun h=>∀ b o,s.heap.get? b = some o -> h.get? b = some o) W (fun h h' g kk b o e=>kk b o ?_ ?_ (g b o e)) (fun i j vi vj s' g h1 h2 E Q' q'=>am hr I rv hd lM wu i j vi vj s' g h1 h2 E Q' q') ?_ ⟨⟨_,Heap.get?_push_of_some _ (Heap.get?_push_size _ rfl),rfl,rfl⟩,?_⟩ (fun b o e=>Heap.get?_push_of_some _ (Heap.get?_push_of_some _ e)) (Heap.get?_push_size _ rfl) (by simp; omega) (fun v h' tk e kk=>?_)
 ·exact fun z=>Nat.ne_of_lt (Heap.lt_size e) (by simpa using z)
 ·rw [hsz]
  exact Nat.ne_of_lt (Nat.lt_succ_of_lt (Heap.lt_size e))
 ·rw [hsz]
  intro z
  have z':s.heap.objs.size + 1 = s.heap.objs.size \/ s.heap.objs.size + 1 = p:=by simpa using z
  rcases z' with z' | z'
  ·exact Nat.succ_ne_self _ z'
  ·exact Nat.lt_irrefl _ (Nat.lt_trans (Nat.lt_succ_self _) (z'.symm ▸ pk:s.heap.objs.size + 1 < s.heap.objs.size))
 ·obtain ⟨o,ho,r1⟩ := pl.isList
  exact ⟨o,Heap.get?_push_of_some _ (Heap.get?_push_of_some _ ho),r1⟩
 ·have UK : aU.toArray.size - 1 = ds.length - 1 := by
   simp
   omega
  rw [UK] at e
  obtain ⟨x,e1,e2⟩ := Hn rv (by simpa using e)
  refine ⟨x,H,I.kept (t':=tk) (fun b o z=>kk b o ?_ ?_ (Heap.get?_push_of_some _ (Heap.get?_push_of_some _ z))),e2,q x e1⟩
  ·exact fun y=>Nat.ne_of_lt (Heap.lt_size z) (by simpa using y)
  ·rw [hsz]
   exact Nat.ne_of_lt (Nat.lt_succ_of_lt (Heap.lt_size z))
end
section
variable {X:Cx} {k:Nat}
theorem Uw (a:Value):argsOk "max" ⟨[a],[]⟩ := by
 unfold argsOk
 kernel_rfl
def Dj (ds:List PyData):Nat:=argBest (fun i j=>Vr (ds.getD i .none) (ds.getD j .none)) (ds.length - 1)
theorem al {pins : List (Addr × Obj)} {s : Shared} {σ : St} {H : Hp} {us : List V} {aU : List Value} {ds : List PyData} (hr : Cb k X.A) (I : Ai X pins σ H s) (rv : B2 us aU) (hd : cL H ds us) (lM : ∀ d ∈ ds, ∀ e ∈ ds, Ho d e) (wu : ∀ d ∈ ds, d.depth <= 50) (i j : Nat) (vi vj : Value) (s' : Shared)
  (hk:∀ b o,s.heap.get? b = some o -> s'.heap.get? b = some o) (h1:aU.toArray[i]? = some vi) (h2:aU.toArray[j]? = some vj) (E Q:Value -> Shared -> Prop) (q:Q (.bool (Vr (ds.getD i .none) (ds.getD j .none))) s'):wpAny (model X.prog X.w) X.A.in1 (richCompare .Gt vi vj) Q E s':=by
 have hl:=Et hd
 have get:∀ (m:Nat) (vm:Value),aU.toArray[m]? = some vm -> ∃ x,B4 x vm /\ Rp H (ds.getD m .none) x /\ ds.getD m .none ∈ ds:=fun m vm h=>by
  obtain ⟨x,e1,e2⟩ := Hn rv (by simpa using h)
  have hm:m < ds.length:=by
   have:=(List.getElem?_eq_some_iff.mp e1).1
   omega
  have e3:ds[m]? = some (ds.getD m .none):=by
   rw [List.getD_eq_getElem?_getD,List.getElem?_eq_getElem hm]
   rfl
  obtain ⟨x2,f1,f2⟩ := Ii hd e3
  rw [e1] at f1
  cases f1
  exact ⟨x,e2,f2,List.mem_of_getElem? e3⟩
 obtain ⟨x,rx,px,mx⟩ := get i vi h1
 obtain ⟨y,ry,py,my⟩ := get j vj h2
 have I':Ai X pins σ H { s with heap:=s'.heap,toks:=s'.toks }:=I.kept (t':=s'.toks) hk
 obtain ⟨as,q1⟩ := Cj I' _ x vi px rx
 obtain ⟨bs,q2⟩ := Cj I' _ y vj py ry
 have hu:=hr.units
 have d1:=wu _ mx
 exact Q5 _ _ X.A.in1 s' vi vj as bs q1 q2 (Cw _ x px) (Cw _ y py) (lM _ mx _ my) (by show X.A.units + 1 + _ < _; omega) _ _ _ _ q
def j5 (K:PySem.W.Frag):List V -> Hp -> VK -> Prop:=fun xs H Q=>∃ (p:Addr) (us:List V) (ds:List PyData),xs = [.ref p] /\ B5 K H p us /\ cL H ds us /\ 0 < us.length /\ (∀ d ∈ ds,∀ e ∈ ds,Ho d e) /\ (∀ d ∈ ds,d.depth <= 50) /\ ∀ v,us[Dj ds]? = some v -> Q v H
theorem U7 (K:PySem.W.Frag) (hr:Cb k X.A) (hc:X.calm = true) (hK:X.K = K:=by rfl):D2 X (.builtin "max") (j5 K):=by
 subst hK
 intro pins s σ H xs us0 Q I r h
 obtain ⟨p,us,ds,rfl,hq,hd,eZ,lM,wu,q⟩ := h
 obtain ⟨u,rfl,rx⟩ := Ff r
 cases rx
 obtain ⟨aU,rv,pl,hz⟩ := I.list hq
 have hl:=Et hd
 have JC:=rv.length
 have nm:(toString "max" ++ toString ".loop" : String) = "max.loop" := by decide
 refine Mf (args:=⟨[.ref p],[]⟩) F.kind_max F.plain_max F.entry_max (Uw _) ?_
 show wpAny (model X.prog X.w) X.A.in1 (Builtin.Builtins.bindParams "max" ["key","default"] 0 ⟨[],[]⟩ >>= _) _ _ s
 refine wpAny_bind (wpAny_of_eq (show Builtin.Builtins.bindParams "max" ["key","default"] 0 ⟨[],[]⟩ = pure [none,none] from ?_) ?_)
 ·kernel_rfl
 refine wpAny_bind (wpAny_pure ?_)
 refine wpAny_bind (wpAny_pyIter_list pl.isList ?_)
 refine wpAny_bind (wpAny_newObj_type ?_)
 rw [nm]
 refine wpAny_pure ⟨plainId_quiet F.plain_max_loop _,?_⟩
 have pk:p < s.heap.objs.size:=pl.lt
 have W:=Walks.list (prog:=X.prog) (w:=X.w) (A:=X.A.in1) (I.ok.hd hc) s.heap.objs.size p (Nat.ne_of_lt pk) aU.toArray
 have hsz:(s.heap.push { cls := .type "list_iterator",data := .fields #[.ref p,.int 0 0] }).objs.size = s.heap.objs.size + 1:=by simp [Heap.push]
 refine Rz (S:=(s.heap.push { cls := .type "list_iterator",data := .fields #[.ref p,.int 0 0] }).objs.size) (bt:=fun i j=>Vr (ds.getD i .none) (ds.getD j .none)) (Good:=fun h=>∀ b o,s.heap.get? b = some o -> h.get? b = some o) W (fun h h' g kk b o e=>kk b o ?_ ?_ (g b o e)) (fun i j vi vj s' g h1 h2 E Q' q'=>al hr I rv hd lM wu i j vi vj s' g h1 h2 E Q' q') ?_ ⟨⟨_,Heap.get?_push_of_some _ (Heap.get?_push_size _ rfl),rfl,rfl⟩,?_⟩ (fun b o e=>Heap.get?_push_of_some _ (Heap.get?_push_of_some _ e)) (Heap.get?_push_size _ rfl) (by simp; omega) (fun v h' tk e kk=>?_)
 ·exact fun z=>Nat.ne_of_lt (Heap.lt_size e) (by simpa using z)
 ·rw [hsz]
  exact Nat.ne_of_lt (Nat.lt_succ_of_lt (Heap.lt_size e))
 ·rw [hsz]
  intro z
  have z':s.heap.objs.size + 1 = s.heap.objs.size \/ s.heap.objs.size + 1 = p:=by simpa using z
  rcases z' with z' | z'
  ·exact Nat.succ_ne_self _ z'
  ·exact Nat.lt_irrefl _ (Nat.lt_trans (Nat.lt_succ_self _) (z'.symm ▸ pk:s.heap.objs.size + 1 < s.heap.objs.size))
 ·obtain ⟨o,ho,r1⟩ := pl.isList
  exact ⟨o,Heap.get?_push_of_some _ (Heap.get?_push_of_some _ ho),r1⟩
 ·have UK : aU.toArray.size - 1 = ds.length - 1 := by
   simp
   omega
  rw [UK] at e
  obtain ⟨x,e1,e2⟩ := Hn rv (by simpa using e)
  refine ⟨x,H,I.kept (t':=tk) (fun b o z=>kk b o ?_ ?_ (Heap.get?_push_of_some _ (Heap.get?_push_of_some _ z))),e2,q x e1⟩
  ·exact fun y=>Nat.ne_of_lt (Heap.lt_size z) (by simpa using y)
  ·rw [hsz]
   exact Nat.ne_of_lt (Nat.lt_succ_of_lt (Heap.lt_size z))
end
section
variable {prog:Program} {w:World} {K:Type} [DecidableEq K] {knd:HeapKind prog w K} {A:Around} {E:Value -> Shared -> Prop} {s:Shared} {d:Addr} {xs:List (K × Addr × Value)}
end
section
variable {X:Cx}
end
section
variable {X:Cx} {pos:Pos} {ke ve:Expr} {tk tv:TE}
end
section
variable {P:Program} {w:World} {A:Around} {E:Value -> Shared -> Prop} {s:Shared}
end
section
variable {X:Cx}
end
section
variable {X:Cx} {pins:List (Addr × Obj)} {σ:St} {H:Hp} {s:Shared} {k:Nat}
theorem Qc (I:Ai X pins σ H s) {d:PyData}:∀ {ds:List PyData} {vs:List V} {us:List Value},cL H ds vs -> B2 vs us -> ds.length = us.length /\ ∀ (m:Nat) (w:Value) (e:PyData),us[m]? = some w -> ds[m]? = some e -> Gw s.heap d w = PyData.eqv e d
 | [],vs,us,h,r=>by
  unfold cL at h
  subst h
  cases r
  exact ⟨rfl,fun m w e z=>by simp at z⟩
 | e :: ds,vs,us,h,r=>by
  unfold cL at h
  obtain ⟨x,xs,rfl,h1,h2⟩ := h
  cases r with
  | cons r1 r2 =>
   obtain ⟨as,q⟩ := G0 I h1 r1
   obtain ⟨l,ih⟩ := Qc I h2 r2
   refine ⟨by rw [List.length_cons,List.length_cons,l],fun m w e' z1 z2=>?_⟩
   cases m with
   | zero =>
    rw [List.getElem?_cons_zero] at z1 z2
    cases z1
    cases z2
    exact Kn q (Cw e x h1)
   | succ m =>
    rw [List.getElem?_cons_succ] at z1 z2
    exact ih m w e' z1 z2
def Zi (K:PySem.W.Frag):V -> List V -> Hp -> VK -> Prop:=fun x vs H Q=>∃ (l:Addr) (us:List V) (y:V) (d:PyData) (ds:List PyData) (j:Nat),x = .ref l /\ vs = [y] /\ B5 K H l us /\ Rp H d y /\ cL H ds us /\ d.depth <= 50 /\ (∃ e,ds[j]? = some e /\ PyData.eqv e d = true) /\ (∀ m e,m < j -> ds[m]? = some e -> PyData.eqv e d = false) /\ Q (.int (j:Nat)) H
theorem Uy (hr:Cb k X.A):kq X "list.index" (Zi X.K):=by
 intro pins s σ H x vs v us Q I rx rv h
 obtain ⟨l,ys,y,d,ds,j,rfl,rfl,hq,hy,hall,hdep,⟨e0,hj,he0⟩,iI,q⟩ := h
 cases rx
 obtain ⟨u,rfl,ru⟩ := rv.one
 obtain ⟨aU,r,pl,hz⟩ := I.list hq
 obtain ⟨⟨oc,od,UD,lG⟩,n,e,hc,hd,hs⟩ := pl
 obtain rfl:oc = .type "list" := hc
 obtain rfl:UD = .seq aU.toArray n:=hs
 have hlen:=r.length
 have hu:=hr.units
 obtain ⟨tZ,sV⟩ := Qc (d:=d) I hall r
 have QY:j < ds.length:=(List.getElem?_eq_some_iff.mp hj).1
 have h63:=Gg
 refine call_meets F.slot_list_index ⟨_,e,rfl⟩ F.entry_list_index (F.args_list_index_2 _ _) (PySem.SeqAt.list_indexAt l aU.toArray n od lG u (Gw s.heap d) j (by rw [List.size_toArray]; omega) ?_ ?_ ?_) ⟨e,fun z hz'=>?_,?_⟩
 ·omega
 ·have QZ:j < aU.length:=by omega
  have e1:aU.toArray[j]'(by rw [List.size_toArray]; omega) = aU[j]:=by simp
  rw [e1,sV j aU[j] e0 (List.getElem?_eq_getElem QZ) hj]
  exact he0
 ·intro m hm hmj
  rw [List.size_toArray] at hm
  have e1:aU.toArray[m]'(by rw [List.size_toArray]; omega) = aU[m]:=by simp
  rw [e1,sV m aU[m] ds[m] (List.getElem?_eq_getElem hm) (List.getElem?_eq_getElem (by omega))]
  exact iI m _ hmj (List.getElem?_eq_getElem (by omega))
 ·exact Kp I hy ru (by show X.A.units + 1 + d.depth < cLine; omega) hall r z (by simpa using hz')
 ·exact ⟨.int (j:Nat),H,I.tok _,⟨_,rfl⟩,q⟩
end
section
variable {P:Program} {w:World} {A:Around} {E:Value -> Shared -> Prop} {s:Shared}
end
section
variable {X:Cx}
end
open PySem.Builtin.Str (strSliceIndices)
section
variable {X:Cx}
theorem Md:D2 X (.builtin "len") (fun xs H Q=>∃ z:Str,xs = [.str z] /\ (z.length:Int) < 2 ^ 63 /\ Q (.int (z.length:Nat)) H):=by
 intro pins s σ H xs us Q I r h
 obtain ⟨z,rfl,hz,q⟩ := h
 obtain ⟨u,rfl,t,rfl⟩ := Ff r
 exact P.len_str (by omega) ⟨.int _,H,I.tok _,⟨_,rfl⟩,q⟩
end
def gl (x:Str):It:=⟨fun i _=>i < x.cps.toList.length,fun i H v H'=>H' = H /\ ∃ c,x.cps.toList[i]? = some c /\ v = .str ⟨#[c]⟩,fun i _=>i = x.cps.toList.length⟩
theorem Qz {P : Program} {w : World} {K : PySem.W.Frag} {tg : Expr} (x : Str) (t : Tok) (it : Addr) (n : String) (hn : ["enumerate", "zip", "dict_itemiterator", "dict_reverseitemiterator", "odict_iterator", "itertools.zip_longest", "itertools.pairwise"].contains n = false)
  (W:∀ A':Around,A'.handled = none -> Walks P w A' it [it] [it] x.cps.size (SignAt x) (fun i h=>h.IsStrIter it n x t i))
  (hs:∀ (A:Around) (i:Nat) (s:Shared) (Q:Value -> Shared -> Prop) (E:Value -> Shared -> Prop),s.heap.IsStrIter it n x t i -> Q (.ref it) s -> wpAny (model P w) A (pyIter (.ref it)) Q E s) :
  Pk P w K tg (gl x) [it] it (fun i h=>h.IsStrIter it n x t i) where
 mem:=by simp
 obj:=fun i h st b hb=>by
  have e:b = it:=by simpa using hb
  subst e
  obtain ⟨o,e,c,d⟩ := st
  exact ⟨o,e,fun v z=>by rw [d] at z; cases z⟩
 keep:=fun i h h' st k=>by
  obtain ⟨o,e,r⟩ := st
  exact ⟨o,k it (by simp) o e,r⟩
 item:=by
  intro X hP hw hK hc i pins s σ H E I hf st hg
  subst hP hw hK
  obtain ⟨f0,f1,f2,f3,f4,f5⟩ := hf it (by simp)
  refine (W X.A (I.ok.hd hc)).item i s _ E (by have:i < x.cps.toList.length:=hg; simpa using this) st fun v h' tk hv oq sb=>?_
  obtain ⟨c,u,hx,rfl⟩ := hv
  have I1:Ai X pins σ H { s with heap:=h',toks:=tk }:=I.turned (t':=tk) (fun b o hb e=>sb b o (by simpa using hb) e) f0 f1 f3 f4 f5
  obtain ⟨o,e,c1,d⟩ := id oq
  exact ⟨_,rfl,Tj (s:={ s with heap:=h',toks:=tk }) e c1 d hn ⟨.str ⟨#[c]⟩,H,I1,⟨u,rfl⟩,⟨rfl,c,by simpa using hx,rfl⟩,oq,fun b hb=>(hf b hb).1⟩⟩
 done:=by
  intro X hP hw hK hc i pins s σ H E I hf st hg
  subst hP hw hK
  obtain ⟨f0,f1,f2,f3,f4,f5⟩ := hf it (by simp)
  have e:i = x.cps.size:=by
   have:i = x.cps.toList.length:=hg
   simpa using this
  subst e
  exact (W X.A (I.ok.hd hc)).done s _ E st fun h' tk sb=>⟨rfl,I.turned (t':=tk) (fun b o hb e=>sb b o (by simpa using hb) e) f0 f1 f3 f4 f5⟩
 self:=fun A i s Q E st h=>hs A i s Q E st h
def lg (tl:TE):TI:=fun σ H R=>tl σ H fun v H1=>∃ x,v = .str x /\ R (gl x) H1
theorem dr {X:Cx} {tg l:Expr} {tl:TE} (hl:PE X l tl):PI X tg l (lg tl):=by
 intro pins s σ H R I h
 refine Bv (hl pins s σ H _ I h) fun v s1 dG=>?_
 obtain ⟨y,H1,I1,r1,q1⟩ := dG
 obtain ⟨x,e,q⟩ := q1
 subst e
 obtain ⟨t,rfl⟩ := r1
 have fin:∀ b ∈ [s1.heap.objs.size],Je X pins H1 b:=fun b hb=>by
  have e:b = s1.heap.objs.size:=by simpa using hb
  subst e
  exact I1.mI (Nat.le_refl _) (I1.aS.fresh (Nat.le_refl _))
 cases ha:x.cps.all (· < 128)
 ·refine wpAny_pyIter_wide ha ⟨s1.heap.objs.size,[s1.heap.objs.size],_,gl x,H1,rfl,I1.kept (t':=s1.toks) fun b o e=>Heap.get?_push_of_some _ e,Qz x t _ "str_iterator" (by decide) (fun A' hA=>Walks.strWide hA _ x t) (fun A i s Q E st h=>wpAny_pyIter_striter_wide st h),⟨_,Heap.get?_push_size _ rfl,rfl,rfl⟩,fin,q⟩
 ·refine wpAny_pyIter_ascii ha ⟨s1.heap.objs.size,[s1.heap.objs.size],_,gl x,H1,rfl,I1.kept (t':=s1.toks) fun b o e=>Heap.get?_push_of_some _ e,Qz x t _ "str_ascii_iterator" (by decide) (fun A' hA=>Walks.strAscii hA _ x t) (fun A i s Q E st h=>wpAny_pyIter_striter_ascii st h),⟨_,Heap.get?_push_size _ rfl,rfl,rfl⟩,fin,q⟩
theorem W1 {x : Str} {fr : List Nat} {te : TE} {σ : St} {D : Addr} {H1 : Hp} {Q : Hp -> Prop} (Pv : Nat -> List V -> Hp -> Prop) (h0 : Pv 0 [] (upd H1 D (.lst [])))
  (hs:∀ i c ys H,x.cps.toList[i]? = some c -> Pv i ys H -> ∀ Qe:VK,(∀ y H5,H5 D = some (.lst ys) -> ys.length < sizeLine -> Pv (i + 1) (ys ++ [y]) (upd H5 D (.lst (ys ++ [y]))) -> Qe y H5) -> te (some (.str ⟨#[c]⟩) :: Cz fr σ) H Qe)
  (hd:∀ ys H,Pv x.cps.toList.length ys H -> Q H):Di 1 fr (gl x) (Gq 0) P8 te σ D H1 Q:=by
 refine ⟨fun i m ys H=>m = x.cps.toList.length - i /\ i <= x.cps.toList.length /\ Pv i ys H,⟨x.cps.toList.length,by simp,Nat.zero_le _,h0⟩,?_⟩
 rintro i m ys H' ⟨rfl,hi,p⟩
 by_cases dE:i < x.cps.toList.length
 ·refine .inr ⟨dE,fun v H2 y=>?_⟩
  obtain ⟨e,c,hc,y⟩ := y
  subst e y
  refine ⟨⟨[some (.str ⟨#[c]⟩)],rfl,rfl⟩,?_⟩
  simp only [P8,↓reduceIte]
  exact hs i c ys _ hc p _ fun y H5 hD hz pv=>⟨hD,hz,x.cps.toList.length - (i + 1),by omega,rfl,dE,pv⟩
 ·have e:i = x.cps.toList.length:=by omega
  subst e
  exact .inl ⟨rfl,hd _ _ p⟩
theorem Nu:∀ l:List (Str × Tok),B2 ((l.map (·.1)).map V.str) (strValues l)
 | []=>.nil
 | (x,t) :: l=>.cons ⟨t,rfl⟩ (Nu l)
section
variable {X:Cx}
def dw:V -> List V -> Hp -> VK -> Prop:=fun v vs H Q=>∃ x y:Str,v = .str x /\ vs = [.str y] /\ (y.length == 0) = false /\ x.length <= 100000 /\ ∀ p,H p = none -> Q (.ref p) (upd H p (.lst ((Txt.split x y).map V.str)))
theorem X2:kc X "str.split" dw:=by
 intro pins s σ H v vs v' us Q I rx rv h
 obtain ⟨x,y,rfl,rfl,hy,hsz,q⟩ := h
 obtain ⟨t,rfl⟩ := rx
 obtain ⟨u',rfl,ru⟩ := rv.one
 obtain ⟨u,rfl⟩ := ru
 have hL:100000 + 2 <= sizeLine:=by decide
 have hn:(Builtin.Str.partsBetween x (Builtin.Str.occurrences x y 0 x.length (x.length + 1)) y.length).length <= sizeLine:=by
  have e1:=StrLaws.occ_length_le x y 0 x.length (x.length + 1)
  rw [length_partsBetween]
  omega
 have fin:∀ (l:List (Str × Tok)) (k:Nat),l.map (·.1) = Txt.split x y -> l.length <= sizeLine -> EP X pins σ Q (.ref s.heap.objs.size) { s with heap:=s.heap.push { cls := .type "list",data := .seq (strValues l).toArray },toks:=k }:=fun l k e hl=>by
  refine ⟨.ref _,_,I.IH (t':=k) (Nu l) (by rw [List.length_map,List.length_map]; exact hl),rfl,?_⟩
  rw [e]
  exact q _ I.fresh
 cases h1:(decide (x.length < y.length) || decide (Builtin.Str.strKind x < Builtin.Str.strKind y))
 ·cases hf:(Builtin.Str.occurrences x y 0 x.length (x.length + 1)).isEmpty
  ·refine call_meets F.slot_str_split (typeIs_str _ _ _) F.entry_str_split (F.args_str_split_2 _ _) (meets_str_split_sep x y t u h1 hy hf (by omega) hn) ?_
   show wants (EP X pins σ Q) X.xe _ { s with toks:=_,heap:=s.heap.push { cls := .type "list",data := .seq (strsFrom s.toks (Builtin.Str.partsBetween x (Builtin.Str.occurrences x y 0 x.length (x.length + 1)) y.length)).toArray } }
   rw [strsFrom_eq]
   have e:=numbered_texts s.toks (Builtin.Str.partsBetween x (Builtin.Str.occurrences x y 0 x.length (x.length + 1)) y.length)
   refine fin _ _ (e.trans ((if_neg (ne_true_of_eq_false h1)).trans (if_neg (ne_true_of_eq_false hf))).symm) ?_
   have e2:=congrArg List.length e
   rw [List.length_map] at e2
   omega
  ·exact call_meets F.slot_str_split (typeIs_str _ _ _) F.entry_str_split (F.args_str_split_2 _ _) (meets_str_split_not_found x y t u h1 hy hf)
    (fin [(x,t)] s.toks ((if_neg (ne_true_of_eq_false h1)).trans (if_pos hf)).symm (by show 1 <= sizeLine; decide))
 ·exact call_meets F.slot_str_split (typeIs_str _ _ _) F.entry_str_split (F.args_str_split_2 _ _) (meets_str_split_cannot_occur x y t u h1)
   (fin [(x,t)] s.toks (if_pos h1).symm (by show 1 <= sizeLine; decide))
theorem U5:D2 X (.type "int") (fun xs H Q=>∃ (x:Str) (n:Int),xs = [.str x] /\ intText? x = some n /\ x.length <= 640 /\ Q (.int n) H):=by
 intro pins s σ H xs us Q I r h
 obtain ⟨x,n,rfl,hn,hl,q⟩ := h
 obtain ⟨u,rfl,ru⟩ := r.one
 obtain ⟨t,rfl⟩ := ru
 exact PySem.W.KIN.call_text hn hl ⟨.int n,H,I.tok _,⟨_,rfl⟩,q⟩
end
def jn:List (List Nat) -> List Nat
 | []=>[]
 | [w]=>w
 | w :: v :: r=>w ++ 32 :: jn (v :: r)
theorem Yz:∀ {ws vs:List (List Nat)},ws ≠ [] -> vs ≠ [] -> (∀ w ∈ ws,32 ∉ w) -> (∀ w ∈ vs,32 ∉ w) -> jn ws = jn vs -> ws = vs:=by
 have cut:∀ {a b r s:List Nat},32 ∉ a -> 32 ∉ b -> a ++ 32 :: r = b ++ 32 :: s -> a = b /\ r = s:=by
  intro a
  induction a with
  | nil =>
   intro b r s _ hb e
   cases b with
   | nil =>
    injection e with _ e2
    exact ⟨rfl,e2⟩
   | cons x b =>
    injection e with e1 _
    exact absurd (e1 ▸ List.mem_cons_self) hb
  | cons y a ih =>
   intro b r s ha hb e
   cases b with
   | nil =>
    injection e with e1 _
    exact absurd (e1 ▸ List.mem_cons_self) ha
   | cons x b =>
    injection e with e1 e2
    obtain ⟨h1,h2⟩ := ih (fun z=>ha (List.mem_cons_of_mem _ z)) (fun z=>hb (List.mem_cons_of_mem _ z)) e2
    exact ⟨by rw [e1,h1],h2⟩
 intro ws
 induction ws with
 | nil=>intro vs h; exact absurd rfl h
 | cons w ws ih =>
  intro vs _ hv hw u4 e
  cases vs with
  | nil=>exact absurd rfl hv
  | cons v vs =>
   have w0:=hw w List.mem_cons_self
   have v0:=u4 v List.mem_cons_self
   cases ws with
   | nil =>
    cases vs with
    | nil =>
     have e':w = v:=e
     rw [e']
    | cons v2 vs =>
     have e':w = v ++ 32 :: jn (v2 :: vs):=e
     exact absurd (e' ▸ List.mem_append_right _ List.mem_cons_self) w0
   | cons w2 ws =>
    cases vs with
    | nil =>
     have e':w ++ 32 :: jn (w2 :: ws) = v:=e
     exact absurd (e' ▸ List.mem_append_right _ List.mem_cons_self) v0
    | cons v2 vs =>
     obtain ⟨h1,h2⟩ := cut w0 v0 e
     rw [h1,ih (by simp) (by simp) (fun z hz=>hw z (List.mem_cons_of_mem _ hz)) (fun z hz=>u4 z (List.mem_cons_of_mem _ hz)) h2]
theorem O8:∀ ws:List Str,(Str.join " " ws).cps.toList = jn (ws.map fun x=>x.cps.toList)
 | []=>rfl
 | [w]=>rfl
 | w :: v :: r=>by
  have ih:=O8 (v :: r)
  show (w ++ " " ++ Str.join " " (v :: r)).cps.toList = _
  rw [Str.cps_append,Str.cps_append,Array.toList_append,Array.toList_append,ih,PySem.W.KWk.blank_list,List.append_assoc]
  rfl
theorem Vy:(PySem.Str.ofString " ") = ⟨#[32]⟩ := by decide
theorem Tv {x y:Str} (h:x.cps.toList = y.cps.toList):x = y:=Str.ext' (Array.toList_inj.mp h)
theorem J2:∀ {ws vs:List Str},(ws.map fun x=>x.cps.toList) = (vs.map fun x=>x.cps.toList) -> ws = vs
 | [],[],_=>rfl
 | [],_ :: _,h=>by cases h
 | _ :: _,[],h=>by cases h
 | w :: ws,v :: vs,h=>by
  injection h with h1 h2
  rw [Tv h1,J2 h2]
theorem Ja {x:Str} {ws:List Str} (h0:ws ≠ []) (hw:∀ w ∈ ws,32 ∉ w.cps.toList) (h:x.cps.toList = jn (ws.map fun x=>x.cps.toList)):Txt.split x " " = ws:=by
 have e:=StrLaws.join_split x " "
 have hf:=StrLaws.split_free x 32
 rw [<- Vy] at hf
 refine J2 (Yz ?_ (by simpa using h0) ?_ ?_ ?_)
 ·intro z
  have z':Txt.split x " " = []:=by simpa using z
  rw [z'] at e
  have e2:=congrArg (fun y:Str=>y.cps.toList) e
  have e3:([]:List Nat) = x.cps.toList:=e2
  have hx:x = ⟨#[]⟩ := Tv e3.symm
  rw [hx] at z'
  exact absurd z' (by decide)
 ·intro w pq
  obtain ⟨y,hy,rfl⟩ := List.mem_map.mp pq
  exact hf y hy
 ·intro w pq
  obtain ⟨y,hy,rfl⟩ := List.mem_map.mp pq
  exact hw y hy
 ·rw [<- O8,e,h]
open PySem PySem.Spec PyProof.Rows PySem.NumText
def Bq (n:Int):Str:=Str.ofString (toString n)
def Dy (x:Str):Bool:=(x.cps.toList.all fun c=>decide (48 <= c /\ c <= 57)) && (decide (1 <= x.length /\ x.length <= 100) && (decide (x = "0") || decide (x.cps.toList.head? ≠ some 48)))
theorem Pw:∀ m:Nat,0 < m -> ∃ c r,Nat.toDigits 10 m = c :: r /\ c ≠ '0':=fun m=>by
 induction m using Nat.strongRecOn with
 | _ m ih =>
  intro h0
  by_cases h:m < 10
  ·rw [Nat.toDigits_of_lt_base h]
   refine ⟨_,_,rfl,?_⟩
   have:∀ d:Nat,d < 10 -> 0 < d -> Nat.digitChar d ≠ '0':=by decide
   exact this m h h0
  ·have hm:m % 10 < 10:=Nat.mod_lt m (by decide)
   have t:Nat.toDigits 10 (m / 10) ++ Nat.toDigits 10 (m % 10) = Nat.toDigits 10 (10 * (m / 10) + m % 10):=Nat.toDigits_append_toDigits (by decide) (by omega) hm
   rw [Nat.div_add_mod] at t
   obtain ⟨c,r,e,hc⟩ := ih (m / 10) (by omega) (by omega)
   rw [<- t,e]
   exact ⟨c,_,rfl,hc⟩
theorem Es (m:Nat):(Bq (m:Int)).cps.toList = (Nat.toDigits 10 m).map Char.toNat:=PySem.W.KIN.signs_num m
theorem Z6 (m:Nat):AllDigits (Bq (m:Int)).cps.toList:=by
 intro c hc
 rw [Es] at hc
 obtain ⟨ch,iL,e⟩ := List.mem_map.mp hc
 rw [<- e]
 exact digit_range (Nat.isDigit_of_mem_toDigits (by decide) (by decide) iL)
theorem bp (m:Nat):(Bq (m:Int)).cps.toList ≠ []:=by
 rw [Es]
 intro e
 by_cases h:0 < m
 ·obtain ⟨c,r,e1,_⟩ := Pw m h
  rw [e1] at e
  cases e
 ·have:m = 0:=by omega
  subst this
  exact absurd e (by decide)
theorem Rt {m:Nat} (h:m < 10 ^ 100):(Bq (m:Int)).length <= 100:=by
 have e:(Bq (m:Int)).length = (Bq (m:Int)).cps.toList.length:=by simp [Str.length]
 rw [e,Es,List.length_map]
 exact toDigits_len_pow (by decide) (by decide) h
structure gq (x:Str) (n:Int):Prop where
 is:Dy x = true
 val:intText? x = some n
 fre:32 ∉ x.cps.toList
 len:x.length <= 100
 sgn:∀ c ∈ x.cps.toList,48 <= c /\ c <= 57
theorem Db {n:Int} (h0:0 <= n) (h1:n < 10 ^ 100):gq (Bq n) n:=by
 obtain ⟨m,rfl⟩ := Int.eq_ofNat_of_zero_le h0
 have hm:m < 10 ^ 100:=by
  have:((10:Int) ^ 100) = ((10 ^ 100:Nat):Int):=by norm_cast
  omega
 have hd:=Z6 m
 have hn:=bp m
 have hl:=Rt hm
 refine ⟨?_,?_,fun z=>?_,hl,hd⟩
 ·unfold Dy
  rw [Bool.and_eq_true,Bool.and_eq_true,Bool.or_eq_true]
  refine ⟨List.all_eq_true.mpr fun c hc=>decide_eq_true (hd c hc),decide_eq_true ⟨?_,hl⟩,?_⟩
  ·have e:(Bq (m:Int)).length = (Bq (m:Int)).cps.toList.length:=by simp [Str.length]
   rw [e]
   exact List.length_pos_iff.mpr hn
  ·by_cases z:0 < m
   ·refine .inr (decide_eq_true ?_)
    rw [Es]
    obtain ⟨c,r,e,hc⟩ := Pw m z
    rw [e]
    intro y
    have y':c.toNat = 48:=by simpa using y
    exact hc (Char.toNat_inj.mp y')
   ·have:m = 0:=by omega
    subst this
    exact .inl (by decide)
 ·have e:=intText_digits hd hn (Nat.le_trans hl (by decide))
  rw [Es,PySem.W.KIN.val_back] at e
  exact e
 ·have:=hd 32 z
  omega
open Builtin.Str in
section
variable {X:Cx} {o e:Expr} {es:List Expr} {ta:TE} {t:TA} {C f:Addr} {m:Str} {fd:FuncData} {ps:List Str} {sp:Sp} {k:Nat} {ds:List Value} {fJ:List V} {R:St -> XK -> Prop} {pos apos:Pos}
def fw (C:Addr) (m:Str) (sp:Sp) (fJ:List V) (R:St -> XK -> Prop) (ta:TE) (t:TA):TE:=fun σ H Q=>ta σ H fun x H1=>∃ a dx fs,x = .ref a /\ H1 a = some (.ins C dx fs) /\ fs.lookup m = none /\
 t σ H1 fun vs H2=>∃ E,R σ E /\ sp (x :: (vs ++ fJ)) H2 Q E
theorem Ky {pl : Sem Bool} (he : PE X o ta) (c : Vq X.K C) (hm : K4 X.K C m f) (F : A9 X.prog X.w X.K X.mg X.base (Ax X.prog X.w) k f fd ps sp) (hr : Cb k X.A) (hb : Ah X.K fd ps ds) (hd : B2 fJ ds) (hx : Pg X R) (ha : PA X (e :: es) t)
  (eP:starEach (e :: es) X.env = (false,eval e X.env) :: starEach es X.env:=by rfl) (nK:(backTo pos (starEach es X.env)).any (·.1) = false:=by rfl)
  (ht:eval (.Call (.Attribute o m apos) (e :: es) [] pos) X.env = (do
   let ov <- eval o X.env
   standAt apos.atName
   let (f,first) <- holding [ov] (getMethod ov m pl)
   callWith pos f first (backTo pos (starEach (e :: es) X.env)) (backToKw pos (keywordEach [] X.env))):=by rfl) :
  PE X (.Call (.Attribute o m apos) (e :: es) [] pos) (fw C m sp fJ R ta t):=by
 intro pins s σ H Q I h
 refine PySem.W.methodCall_KW (pl:=pl) (Bv (he pins s σ H _ I h) fun u s1 ⟨x,H1,I1,rx,a,dx,fs,ex,ea,l,q⟩=>?_) ht
 subst ex
 obtain rfl:u = Value.ref a:=rx
 refine Ge I1 ea c hm l ?_
 refine PySem.W.callWith_K (first:=[.ref a]) (h₀:=X.base) I.ok.mod.eO hm.kp (Bv (ha pos pins s1 σ H1 _ I1 q) fun us s2 ⟨vs,H2,I2,r,E,hE,q2⟩=>⟨I2.fQ,?_⟩) eP nK
 exact Ts (us := .ref a :: us) (vs := .ref a :: vs) F hr hb hd hx I2 (.cons rfl r) hE q2
end
end L2
namespace Law
local macro_rules | `(tactic| ac_rfl) => `(tactic| first | exact ⟨rfl,rfl,rfl,by decide +kernel,rfl,by decide +kernel,by decide +kernel⟩ | exact ⟨rfl,by decide +kernel,by decide +kernel,by decide +kernel,by decide +kernel⟩)
local macro_rules | `(tactic| omega) => `(tactic| lia)
open PySem L2 PyProof.Rows
open PySem.Builtin.Int (intBits)
def top (i:Nat):Stmt:=PySem.Challenge.pw_roundcall_k93_best_answer_rank.main.body.getD i (.Pass ⟨0,0,0,0⟩)
abbrev Fd:Stmt:=top 31
abbrev N6:Stmt:=top 32
abbrev N9:Stmt:=top 33
abbrev N1:Stmt:=top 34
abbrev Vf:Stmt:=top 35
abbrev Lb:Stmt:=top 36
abbrev Vl:Stmt:=top 37
abbrev Fe:Stmt:=top 38
abbrev N4:Stmt:=top 39
abbrev Eu:Stmt:=top 40
abbrev Vm:Stmt:=top 41
abbrev Na:Stmt:=top 42
abbrev Li:Stmt:=top 43
abbrev Ld:Stmt:=top 44
abbrev Vg:Stmt:=top 46
abbrev Ni:Stmt:=top 47
abbrev Ve:Stmt:=top 48
abbrev Ll:Stmt:=top 49
abbrev Nk:Stmt:=top 50
abbrev Lc:Stmt:=top 51
abbrev Lg:Stmt:=top 52
abbrev My:Stmt:=top 53
abbrev Lh:Stmt:=top 67
abbrev J6:Stmt:=top 68
abbrev Nl:Stmt:=top 69
abbrev Nb:Stmt:=top 70
abbrev La:Stmt:=top 71
abbrev Vj:Stmt:=Ed (top 73) 0
abbrev Vd:Stmt:=Ed (top 73) 3
abbrev Nd:Stmt:=Ed (top 73) 4
abbrev Vk:Stmt:=Ed (top 73) 5
abbrev Vi:Stmt:=Ed (top 73) 7
abbrev Mz:Stmt:=Ed (top 73) 8
abbrev Vh:Stmt:=Ed (top 73) 2
abbrev N7:Stmt:=Ed (top 73) 1
abbrev N2:Stmt:=top 75
abbrev Nj:Stmt:=top 76
abbrev Nf:Stmt:=top 77
abbrev Lj:Stmt:=top 78
abbrev N8:Stmt:=top 79
abbrev Ng:Stmt:=top 80
abbrev Nh:Stmt:=top 81
abbrev N3:Stmt:=top 82
abbrev N0:Stmt:=top 83
abbrev Lk:Stmt:=top 84
abbrev N5:Stmt:=top 85
abbrev Fc:Stmt:=top 86
theorem ff:Aj (["waits","calm"]:List Str) ["waits","calm"] (A4 Fd):=by ac_rfl
theorem f8:Aj (["hall"]:List Str) ["hall"] (A4 N6):=by ac_rfl
theorem fc:Aj (["hall","standing"]:List Str) ["hall","standing"] (A4 N9):=by ac_rfl
theorem eg:Aj (["hall","who"]:List Str) ["hall","who"] (A4 N1):=by ac_rfl
theorem jd:Aj (["hall","standing","who","lost"]:List Str) ["hall","standing","who","lost"] (A4 Vf):=by ac_rfl
theorem Xt:Aj (["hall","standing","who","lost","left"]:List Str) ["hall","standing","who","lost"] (A4 Lb):=by ac_rfl
def Hx:Scope:={ kind := .function,names:=[(PySem.Str.ofString ".0",NameKind.local),(PySem.Str.ofString "turns",NameKind.local)],isGenerator:=false,isCoroutine:=false,more:=[] }
theorem Hv:Ca (A4 Lb) Hx (["hall","standing","who","lost","left"]:List Str) (["turns"]:List Str) []:=by ac_rfl
theorem Ic:(Bh (["hall","standing","who","lost","left"]:List Str) (["turns"]:List Str) []).Nodup:=by decide +kernel
theorem jh:Aj (["hall","standing","lost"]:List Str) ["hall","standing","lost"] (A4 Vl):=by ac_rfl
theorem Xy:Aj (["hall","standing","who","lost","left"]:List Str) ["hall","standing","who","lost"] (A4 Fe):=by ac_rfl
theorem Xv:Aj (["hall","standing","who","behind"]:List Str) ["hall","standing","who"] (A4 N4):=by ac_rfl
theorem Xu:Aj (["hall","standing","who","lost","left"]:List Str) ["hall","standing","who","lost"] (A4 Eu):=by ac_rfl
def Hw:Scope:={ kind := .function,names:=[(PySem.Str.ofString ".0",NameKind.local),(PySem.Str.ofString "number",NameKind.local),(PySem.Str.ofString "turns",NameKind.local)],isGenerator:=false,isCoroutine:=false,more:=[] }
theorem Hu:Ca (A4 Eu) Hw (["hall","standing","who","lost","left"]:List Str) (["number","turns"]:List Str) []:=by ac_rfl
theorem Er:(Bh (["hall","standing","who","lost","left"]:List Str) (["number","turns"]:List Str) []).Nodup:=by decide +kernel
theorem ji:Aj (["hall"]:List Str) ["hall"] (A4 Vm):=by ac_rfl
theorem Ox:Aj (["hall","product","wait"]:List Str) ["hall"] (A4 Na):=by ac_rfl
theorem Ij:Aj (["waits","rows","wait","longer","row"]:List Str) ["waits"] (A4 Li):=by ac_rfl
def Ly:Scope:={ kind := .function,names:=[(PySem.Str.ofString ".0",NameKind.local),(PySem.Str.ofString "turns",NameKind.local),(PySem.Str.ofString "row",NameKind.free)],isGenerator:=false,isCoroutine:=false,more:=[] }
theorem Lx:Ca (A4 Li) Ly (["waits","rows","wait","longer","row"]:List Str) (["turns"]:List Str) [4]:=by ac_rfl
theorem Lz:(Bh (["waits","rows","wait","longer","row"]:List Str) (["turns"]:List Str) [4]).Nodup:=by decide +kernel
theorem S3:Aj (["hall","told","left"]:List Str) ["hall"] (A4 Ld):=by ac_rfl
def Kb:Scope:={ kind := .function,names:=[(PySem.Str.ofString ".0",NameKind.local),(PySem.Str.ofString "quiet",NameKind.local),(PySem.Str.ofString "left",NameKind.free)],isGenerator:=false,isCoroutine:=false,more:=[] }
theorem K8:Ca (A4 Ld) Kb (["hall","told","left"]:List Str) (["quiet"]:List Str) [2]:=by ac_rfl
theorem Ku:(Bh (["hall","told","left"]:List Str) (["quiet"]:List Str) [2]).Nodup:=by decide +kernel
theorem Nn:Aj (["hall","pending","standing","calls","who","behind"]:List Str) ["hall"] (A4 Vg):=by ac_rfl
theorem Gj:Aj (["pending","ways","standing","calls","who","behind","later"]:List Str) ["pending"] (A4 Ni):=by ac_rfl
theorem Nm:Aj (["pending","ways","ranked","bare","later","standing","who","calls"]:List Str) ["pending","ways","ranked"] (A4 Ve):=by ac_rfl
theorem F8:Aj (["hall","pending","ways","table","rank","ranked","standing"]:List Str) ["hall"] (A4 Ll):=by ac_rfl
def Re:Scope:={ kind := .function,names:=[(PySem.Str.ofString ".0",NameKind.local),(PySem.Str.ofString "standing",NameKind.local),(PySem.Str.ofString "calls",NameKind.local)],isGenerator:=false,isCoroutine:=false,more:=[] }
theorem Rc:Ca (A4 Ll) Re (["hall","pending","ways","table","rank","ranked","standing"]:List Str) (["standing","calls"]:List Str) []:=by ac_rfl
theorem Kt:(Bh (["hall","pending","ways","table","rank","ranked","standing"]:List Str) (["standing","calls"]:List Str) []).Nodup:=by decide +kernel
theorem fi:Aj (["table","behind"]:List Str) ["table","behind"] (A4 Nk):=by ac_rfl
theorem f6:Aj (["hall","table","standing","who"]:List Str) ["hall","table","standing","who"] (A4 Lc):=by ac_rfl
def Ji:Scope:={ kind := .function,names:=[(PySem.Str.ofString ".0",NameKind.local),(PySem.Str.ofString "behind",NameKind.local),(PySem.Str.ofString "worth",NameKind.globalImplicit),(PySem.Str.ofString "table",NameKind.free)],isGenerator:=false,isCoroutine:=false,more:=[] }
theorem Jf:Ca (A4 Lc) Ji (["hall","table","standing","who"]:List Str) (["behind"]:List Str) [1]:=by ac_rfl
theorem Jm:(Bh (["hall","table","standing","who"]:List Str) (["behind"]:List Str) [1]).Nodup:=by decide +kernel
theorem Xw:Aj (["hall","table","standing","worths"]:List Str) ["hall","table","standing"] (A4 Lg):=by ac_rfl
def K9:Scope:={ kind := .function,names:=[(PySem.Str.ofString ".0",NameKind.local),(PySem.Str.ofString "who",NameKind.local),(PySem.Str.ofString "call_worth",NameKind.globalImplicit),(PySem.Str.ofString "hall",NameKind.free),(PySem.Str.ofString "standing",NameKind.free),(PySem.Str.ofString "table",NameKind.free)],isGenerator:=false,isCoroutine:=false,more:=[] }
theorem K6:Ca (A4 Lg) K9 (["hall","table","standing","worths"]:List Str) (["who"]:List Str) [0,1,2]:=by ac_rfl
theorem Kr:(Bh (["hall","table","standing","worths"]:List Str) (["who"]:List Str) [0,1,2]).Nodup:=by decide +kernel
theorem Xr:Aj (["hall","table","standing","who","reached"]:List Str) ["hall","table","standing","who"] (A4 My):=by ac_rfl
theorem f9:Aj (["word"]:List Str) ["word"] (A4 Lh):=by ac_rfl
def Ka:Scope:={ kind := .function,names:=[(PySem.Str.ofString ".0",NameKind.local),(PySem.Str.ofString "sign",NameKind.local),(PySem.Str.ofString "FIGURES",NameKind.globalImplicit)],isGenerator:=false,isCoroutine:=false,more:=[] }
theorem K7:Ca (A4 Lh) Ka (["word"]:List Str) (["sign"]:List Str) []:=by ac_rfl
theorem Ks:(Bh (["word"]:List Str) (["sign"]:List Str) []).Nodup:=by decide +kernel
theorem f7:Aj (["words"]:List Str) ["words"] (A4 J6):=by ac_rfl
def Jj:Scope:={ kind := .function,names:=[(PySem.Str.ofString ".0",NameKind.local),(PySem.Str.ofString "word",NameKind.local),(PySem.Str.ofString "is_number",NameKind.globalImplicit)],isGenerator:=false,isCoroutine:=false,more:=[] }
theorem Jg:Ca (A4 J6) Jj (["words"]:List Str) (["word"]:List Str) []:=by ac_rfl
theorem Jn:(Bh (["words"]:List Str) (["word"]:List Str) []).Nodup:=by decide +kernel
def Jk:Scope:={ kind := .function,names:=[(PySem.Str.ofString ".0",NameKind.local),(PySem.Str.ofString "word",NameKind.local),(PySem.Str.ofString "int",NameKind.globalImplicit)],isGenerator:=false,isCoroutine:=false,more:=[] }
theorem Jh:Ca (A4 J6) Jk (["words"]:List Str) (["word"]:List Str) []:=by ac_rfl
theorem Jo:(Bh (["words"]:List Str) (["word"]:List Str) []).Nodup:=by decide +kernel
theorem fj:Aj (["word","size"]:List Str) ["word","size"] (A4 Nl):=by ac_rfl
theorem Ik:Aj (["row","words","calm","numbers"]:List Str) ["row"] (A4 Nb):=by ac_rfl
theorem ef:Aj (["numbers"]:List Str) ["numbers"] (A4 La):=by ac_rfl
def Go:Scope:={ kind := .function,names:=[(PySem.Str.ofString ".0",NameKind.local),(PySem.Str.ofString "number",NameKind.local),(PySem.Str.ofString "str",NameKind.globalImplicit)],isGenerator:=false,isCoroutine:=false,more:=[] }
theorem Gn:Ca (A4 La) Go (["numbers"]:List Str) (["number"]:List Str) []:=by ac_rfl
theorem Gy:(Bh (["numbers"]:List Str) (["number"]:List Str) []).Nodup:=by decide +kernel
theorem jg:Aj (["self"]:List Str) ["self"] (A4 Vj):=by ac_rfl
theorem jc:Aj (["self","word"]:List Str) ["self","word"] (A4 Vd):=by ac_rfl
theorem fe:Aj (["self","hall","standing","table"]:List Str) ["self","hall","standing","table"] (A4 Nd):=by ac_rfl
theorem a6:Aj (["self","hall","table"]:List Str) ["self","hall"] (A4 Vk):=by ac_rfl
theorem jf:Aj (["self"]:List Str) ["self"] (A4 Vi):=by ac_rfl
theorem Xs:Aj (["self","who","lost","broken"]:List Str) ["self","who","lost"] (A4 Mz):=by ac_rfl
theorem je:Aj (["self","word","number","who"]:List Str) ["self","word","number"] (A4 Vh):=by ac_rfl
theorem Ow:Aj (["self","row","read","word","numbers"]:List Str) ["self","row"] (A4 N7):=by ac_rfl
theorem ez:Aj (["script","k"]:List Str) ["script","k"] (A4 N2):=by ac_rfl
theorem fg:Aj (["cell"]:List Str) ["cell"] (A4 Nj):=by ac_rfl
theorem El:Aj (["number","room","calm","waits","k"]:List Str) ["number"] (A4 Nf):=by ac_rfl
theorem S4:Aj (["hall","words"]:List Str) ["hall"] (A4 Lj):=by ac_rfl
def O4:Scope:={ kind := .function,names:=[(PySem.Str.ofString ".0",NameKind.local),(PySem.Str.ofString "wait",NameKind.local),(PySem.Str.ofString "str",NameKind.globalImplicit)],isGenerator:=false,isCoroutine:=false,more:=[] }
theorem O2:Ca (A4 Lj) O4 (["hall","words"]:List Str) (["wait"]:List Str) []:=by ac_rfl
theorem Oe:(Bh (["hall","words"]:List Str) (["wait"]:List Str) []).Nodup:=by decide +kernel
theorem fb:Aj (["hall","table"]:List Str) ["hall","table"] (A4 N8):=by ac_rfl
theorem Xx:Aj (["e","kinds"]:List Str) ["e"] (A4 Ng):=by ac_rfl
theorem Il:Aj (["desk","row","caught","found","e"]:List Str) ["desk","row"] (A4 Nh):=by ac_rfl
theorem Ou:Aj (["desk","number","rows","kinds"]:List Str) ["desk","number"] (A4 N3):=by ac_rfl
theorem Lm:Aj (["number","desk","hall","table","standing","due","who","found"]:List Str) ["number","desk","hall","table","standing"] (A4 N0):=by ac_rfl
theorem fh:Aj (["number","left"]:List Str) ["number","left"] (A4 Lk):=by ac_rfl
def O5:Scope:={ kind := .function,names:=[(PySem.Str.ofString ".0",NameKind.local),(PySem.Str.ofString "k",NameKind.local),(PySem.Str.ofString "min",NameKind.globalImplicit),(PySem.Str.ofString "left",NameKind.free)],isGenerator:=false,isCoroutine:=false,more:=[] }
theorem O3:Ca (A4 Lk) O5 (["number","left"]:List Str) (["k"]:List Str) [1]:=by ac_rfl
theorem Of:(Bh (["number","left"]:List Str) (["k"]:List Str) [1]).Nodup:=by decide +kernel
theorem Ov:Aj (["desk","hall","spot","number","who","lost","behind"]:List Str) ["desk","hall","spot","number"] (A4 N5):=by ac_rfl
theorem Dr:Aj (["script","desks","halls","tables","spots","k","anew","cell","number","at"]:List Str) ["script"] (A4 Fc):=by ac_rfl
def W6:Scope:={ kind := .function,names:=[(PySem.Str.ofString ".0",NameKind.local),(PySem.Str.ofString "k",NameKind.local),(PySem.Str.ofString "_law_hall",NameKind.globalImplicit),(PySem.Str.ofString "_law_big",NameKind.globalImplicit),(PySem.Str.ofString "_law_cell_at",NameKind.globalImplicit),(PySem.Str.ofString "script",NameKind.free)],isGenerator:=false,isCoroutine:=false,more:=[] }
theorem W3:Ca (A4 Fc) W6 (["script","desks","halls","tables","spots","k","anew","cell","number","at"]:List Str) (["k"]:List Str) [0]:=by ac_rfl
theorem X3:(Bh (["script","desks","halls","tables","spots","k","anew","cell","number","at"]:List Str) (["k"]:List Str) [0]).Nodup:=by decide +kernel
def W7:Scope:={ kind := .function,names:=[(PySem.Str.ofString ".0",NameKind.local),(PySem.Str.ofString "hall",NameKind.local),(PySem.Str.ofString "ranks",NameKind.globalImplicit)],isGenerator:=false,isCoroutine:=false,more:=[] }
theorem W4:Ca (A4 Fc) W7 (["script","desks","halls","tables","spots","k","anew","cell","number","at"]:List Str) (["hall"]:List Str) []:=by ac_rfl
theorem X4:(Bh (["script","desks","halls","tables","spots","k","anew","cell","number","at"]:List Str) (["hall"]:List Str) []).Nodup:=by decide +kernel
def W8:Scope:={ kind := .function,names:=[(PySem.Str.ofString ".0",NameKind.local),(PySem.Str.ofString "hall",NameKind.local),(PySem.Str.ofString "beginning",NameKind.globalImplicit)],isGenerator:=false,isCoroutine:=false,more:=[] }
theorem W5:Ca (A4 Fc) W8 (["script","desks","halls","tables","spots","k","anew","cell","number","at"]:List Str) (["hall"]:List Str) []:=by ac_rfl
theorem X5:(Bh (["script","desks","halls","tables","spots","k","anew","cell","number","at"]:List Str) (["hall"]:List Str) []).Nodup:=by decide +kernel
structure Txt (K:PySem.W.Frag) (mg:Str -> Option Value) (aX aV aY bJ cO bA cP aW bB bC cN bK bL bM cQ bN cR bD bE bO bG bH bP bQ bR bS bT cS cT bU cU cV bV cW bI bW bX bZ cA cB cC aZ cD cE cF cH cJ aC aA aE aB aD aI aK aL aM aO aP aN aF aJ aH aG:Addr):Prop where
 u5:mg "hall_of" = some (.ref aX)
 k_x37:PySem.W.keepIn K (.ref aX) = true
 iT:mg "beginning" = some (.ref aV)
 k_x23:PySem.W.keepIn K (.ref aV) = true
 pw:mg "may_lose" = some (.ref aY)
 k_x29:PySem.W.keepIn K (.ref aY) = true
 JD:mg "is_listener" = some (.ref bJ)
 k_x14:PySem.W.keepIn K (.ref bJ) = true
 UL:mg "refuse_wrong_turn" = some (.ref cO)
 k_x2:PySem.W.keepIn K (.ref cO) = true
 u6:mg "left_behind" = some (.ref bA)
 k_x15:PySem.W.keepIn K (.ref bA) = true
 UM:mg "quiet_behind" = some (.ref cP)
 k_x8:PySem.W.keepIn K (.ref cP) = true
 jT:mg "after" = some (.ref aW)
 k_x42:PySem.W.keepIn K (.ref aW) = true
 u7:mg "all_behind" = some (.ref bB)
 k_x19:PySem.W.keepIn K (.ref bB) = true
 JE:mg "broken_ones" = some (.ref bC)
 k_x16:PySem.W.keepIn K (.ref bC) = true
 JF:mg "quiet_values" = some (.ref cN)
 k_x9:PySem.W.keepIn K (.ref cN) = true
 JG:mg "how_many" = some (.ref bK)
 k_x30:PySem.W.keepIn K (.ref bK) = true
 JH:mg "all_left" = some (.ref bL)
 k_x31:PySem.W.keepIn K (.ref bL) = true
 JI:mg "standings" = some (.ref bM)
 k_x24:PySem.W.keepIn K (.ref bM) = true
 UN:mg "calls_by_standing" = some (.ref cQ)
 k_x3:PySem.W.keepIn K (.ref cQ) = true
 JJ:mg "ways_to" = some (.ref bN)
 k_x38:PySem.W.keepIn K (.ref bN) = true
 UO:mg "without_calls_left" = some (.ref cR)
 k_x1:PySem.W.keepIn K (.ref cR) = true
 pz:mg "ranks" = some (.ref bD)
 k_x43:PySem.W.keepIn K (.ref bD) = true
 pA:mg "worth" = some (.ref bE)
 k_x44:PySem.W.keepIn K (.ref bE) = true
 JK:mg "call_worth" = some (.ref bO)
 k_x20:PySem.W.keepIn K (.ref bO) = true
 u9:mg "best_call" = some (.ref bG)
 k_x25:PySem.W.keepIn K (.ref bG) = true
 uc:mg "worst_answer" = some (.ref bH)
 k_x10:PySem.W.keepIn K (.ref bH) = true
 JL:mg "is_number" = some (.ref bP)
 k_x26:PySem.W.keepIn K (.ref bP) = true
 ud:mg "numbers_of" = some (.ref bQ)
 k_x21:PySem.W.keepIn K (.ref bQ) = true
 JM:mg "takes" = some (.ref bR)
 k_x45:PySem.W.keepIn K (.ref bR) = true
 JN:mg "row_read" = some (.ref bS)
 k_x32:PySem.W.keepIn K (.ref bS) = true
 ue:mg "numbers_text" = some (.ref bT)
 k_x11:PySem.W.keepIn K (.ref bT) = true
 JO:mg "_law_cell_at" = some (.ref bW)
 k_x17:PySem.W.keepIn K (.ref bW) = true
 uf:mg "_law_big" = some (.ref bX)
 k_x39:PySem.W.keepIn K (.ref bX) = true
 ug:mg "_law_hall" = some (.ref bZ)
 k_x34:PySem.W.keepIn K (.ref bZ) = true
 uh:mg "_law_row" = some (.ref cA)
 k_x40:PySem.W.keepIn K (.ref cA) = true
 ui:mg "_law_begun" = some (.ref cB)
 k_x28:PySem.W.keepIn K (.ref cB) = true
 JP:mg "_law_kind" = some (.ref cC)
 k_x35:PySem.W.keepIn K (.ref cC) = true
 jU:mg "_law_told" = some (.ref aZ)
 k_x36:PySem.W.keepIn K (.ref aZ) = true
 JQ:mg "_law_refused" = some (.ref cD)
 k_x18:PySem.W.keepIn K (.ref cD) = true
 uj:mg "_law_question" = some (.ref cE)
 k_x13:PySem.W.keepIn K (.ref cE) = true
 JR:mg "_law_who" = some (.ref cF)
 k_x41:PySem.W.keepIn K (.ref cF) = true
 JS:mg "_law_behind" = some (.ref cH)
 k_x22:PySem.W.keepIn K (.ref cH) = true
 m_law:mg "law" = some (.ref cJ)
 k_law:PySem.W.keepIn K (.ref cJ) = true
 n_sum:mg "sum" = none
 JT:mg "sorted" = none
 uk:mg "all" = none
 n_zip:mg "zip" = none
 n_any:mg "any" = none
 eA:mg "range" = none
 eR:mg "len" = none
 lN:mg "min" = none
 um:mg "max" = none
 n_set:mg "set" = none
 nN:mg "tuple" = none
 lO:mg "enumerate" = none
 pB:mg "int" = none
 cM:mg "isinstance" = none
 eE:mg "str" = none
 kM:mg "ValueError" = none
 gU:∃ t,mg "MOST_LISTENERS" = some (.int 8 t)
 gW:∃ t,mg "MOST_STANDINGS" = some (.int 3000 t)
 iU:∃ t,mg "MOST_FIGURES" = some (.int 100 t)
 oA:∃ t,mg "FIGURES" = some (.str "0123456789" t)
 kN:mg "ROWS_ALONE" = some (.ref aJ)
 q_ROWS_ALONE:∀ H:Hp,Bw K H aJ ([.str "best",.str "rank"]:List V)
 iJ:mg "ROWS_WITH_ONE" = some (.ref aH)
 q_ROWS_WITH_ONE:∀ H:Hp,Bw K H aH ([.str "call",.str "lost",.str "answer",.str "join",.str "leave",.str "turn"]:List V)
 gX:mg "ROWS_WITH_SOME" = some (.ref aG)
 q_ROWS_WITH_SOME:∀ H:Hp,Bw K H aG ([.str "hall",.str "wheel"]:List V)
 fX:mg "NoHall" = some (.ref aC)
 fY:mg "NoListener" = some (.ref aA)
 lP:mg "NoLoss" = some (.ref aE)
 jV:mg "TooMany" = some (.ref aB)
 iM:mg "NoRow" = some (.ref aD)
 kO:mg "RoundError" = some (.ref aI)
 oB:mg "NoWheel" = some (.ref aK)
 oC:mg "NoChain" = some (.ref aL)
 oE:mg "TooMuch" = some (.ref aM)
 pC:mg "NoPart" = some (.ref aO)
 pD:mg "Unsafe" = some (.ref aP)
 oF:mg "NoStand" = some (.ref aN)
 pE:mg "Desk" = some (.ref aF)
 aR:Vq K aF
 nO:Mk K aF cS
 uo:K4 K aF "told" bI
 UP:K4 K aF "told_of_one" cW
 UQ:K4 K aF "refuse_without_stand" cT
 JU:K4 K aF "put" bU
 UR:K4 K aF "new_hall" cU
 US:K4 K aF "rank_text" cV
 JV:K4 K aF "do_turn" bV
 cY:Eg K aF "hall"
 aQ:Eg K aF "standing"
 dA:Eg K aF "table"
 fM:Eg K aF "wheel"
 e_NoHall:Nv K aC
 e_NoListener:Nv K aA
 e_NoLoss:Nv K aE
 e_TooMany:Nv K aB
 e_NoRow:Nv K aD
 e_RoundError:Nv K aI
 b_RoundError:PySem.W.subIn K (.ref aI) (.type "BaseException") = some true
 xgs:PySem.W.specialIn K (.builtin "object.__class__") "__get__" = some (some (.builtin "getset_descriptor.__get__"))
 xtk:PySem.W.takesIn K (.builtin "object.__class__") = some true
 xga_NoHall:PySem.W.findIn K (.ref aC) "__getattribute__" = some (some (.builtin "BaseException.__getattribute__"))
 xgt_NoHall:PySem.W.findIn K (.ref aC) "__getattr__" = some none
 xcl_NoHall:PySem.W.findIn K (.ref aC) "__class__" = some (some (.builtin "object.__class__"))
 xob_NoHall:PySem.W.mroIn K aC (.type "object") = some true
 xbe_NoHall:PySem.W.subIn K (.ref aC) (.type "BaseException") = some true
 u_NoHall_RoundError:PySem.W.subIn K (.ref aC) (.ref aI) = some true
 j_NoHall_NoHall:PySem.W.kitOne K (.ref aC) (.ref aC) = some true
 j_NoHall_NoListener:PySem.W.kitOne K (.ref aC) (.ref aA) = some false
 j_NoHall_TooMany:PySem.W.kitOne K (.ref aC) (.ref aB) = some false
 j_NoHall_NoRow:PySem.W.kitOne K (.ref aC) (.ref aD) = some false
 j_NoHall_NoLoss:PySem.W.kitOne K (.ref aC) (.ref aE) = some false
 j_NoHall_NoWheel:PySem.W.kitOne K (.ref aC) (.ref aK) = some false
 j_NoHall_NoChain:PySem.W.kitOne K (.ref aC) (.ref aL) = some false
 j_NoHall_TooMuch:PySem.W.kitOne K (.ref aC) (.ref aM) = some false
 j_NoHall_NoPart:PySem.W.kitOne K (.ref aC) (.ref aO) = some false
 j_NoHall_Unsafe:PySem.W.kitOne K (.ref aC) (.ref aP) = some false
 j_NoHall_NoStand:PySem.W.kitOne K (.ref aC) (.ref aN) = some false
 j_NoHall_ValueError:PySem.W.kitOne K (.ref aC) (.type "ValueError") = some true
 xga_NoListener:PySem.W.findIn K (.ref aA) "__getattribute__" = some (some (.builtin "BaseException.__getattribute__"))
 xgt_NoListener:PySem.W.findIn K (.ref aA) "__getattr__" = some none
 xcl_NoListener:PySem.W.findIn K (.ref aA) "__class__" = some (some (.builtin "object.__class__"))
 xob_NoListener:PySem.W.mroIn K aA (.type "object") = some true
 xbe_NoListener:PySem.W.subIn K (.ref aA) (.type "BaseException") = some true
 u_NoListener_RoundError:PySem.W.subIn K (.ref aA) (.ref aI) = some true
 j_NoListener_NoHall:PySem.W.kitOne K (.ref aA) (.ref aC) = some false
 j_NoListener_NoListener:PySem.W.kitOne K (.ref aA) (.ref aA) = some true
 j_NoListener_TooMany:PySem.W.kitOne K (.ref aA) (.ref aB) = some false
 j_NoListener_NoRow:PySem.W.kitOne K (.ref aA) (.ref aD) = some false
 j_NoListener_NoLoss:PySem.W.kitOne K (.ref aA) (.ref aE) = some false
 j_NoListener_NoWheel:PySem.W.kitOne K (.ref aA) (.ref aK) = some false
 j_NoListener_NoChain:PySem.W.kitOne K (.ref aA) (.ref aL) = some false
 j_NoListener_TooMuch:PySem.W.kitOne K (.ref aA) (.ref aM) = some false
 j_NoListener_NoPart:PySem.W.kitOne K (.ref aA) (.ref aO) = some false
 j_NoListener_Unsafe:PySem.W.kitOne K (.ref aA) (.ref aP) = some false
 j_NoListener_NoStand:PySem.W.kitOne K (.ref aA) (.ref aN) = some false
 j_NoListener_ValueError:PySem.W.kitOne K (.ref aA) (.type "ValueError") = some true
 xga_TooMany:PySem.W.findIn K (.ref aB) "__getattribute__" = some (some (.builtin "BaseException.__getattribute__"))
 xgt_TooMany:PySem.W.findIn K (.ref aB) "__getattr__" = some none
 xcl_TooMany:PySem.W.findIn K (.ref aB) "__class__" = some (some (.builtin "object.__class__"))
 xob_TooMany:PySem.W.mroIn K aB (.type "object") = some true
 xbe_TooMany:PySem.W.subIn K (.ref aB) (.type "BaseException") = some true
 u_TooMany_RoundError:PySem.W.subIn K (.ref aB) (.ref aI) = some true
 j_TooMany_NoHall:PySem.W.kitOne K (.ref aB) (.ref aC) = some false
 j_TooMany_NoListener:PySem.W.kitOne K (.ref aB) (.ref aA) = some false
 j_TooMany_TooMany:PySem.W.kitOne K (.ref aB) (.ref aB) = some true
 j_TooMany_NoRow:PySem.W.kitOne K (.ref aB) (.ref aD) = some false
 j_TooMany_NoLoss:PySem.W.kitOne K (.ref aB) (.ref aE) = some false
 j_TooMany_NoWheel:PySem.W.kitOne K (.ref aB) (.ref aK) = some false
 j_TooMany_NoChain:PySem.W.kitOne K (.ref aB) (.ref aL) = some false
 j_TooMany_TooMuch:PySem.W.kitOne K (.ref aB) (.ref aM) = some false
 j_TooMany_NoPart:PySem.W.kitOne K (.ref aB) (.ref aO) = some false
 j_TooMany_Unsafe:PySem.W.kitOne K (.ref aB) (.ref aP) = some false
 j_TooMany_NoStand:PySem.W.kitOne K (.ref aB) (.ref aN) = some false
 j_TooMany_ValueError:PySem.W.kitOne K (.ref aB) (.type "ValueError") = some true
 xga_NoRow:PySem.W.findIn K (.ref aD) "__getattribute__" = some (some (.builtin "BaseException.__getattribute__"))
 xgt_NoRow:PySem.W.findIn K (.ref aD) "__getattr__" = some none
 xcl_NoRow:PySem.W.findIn K (.ref aD) "__class__" = some (some (.builtin "object.__class__"))
 xob_NoRow:PySem.W.mroIn K aD (.type "object") = some true
 xbe_NoRow:PySem.W.subIn K (.ref aD) (.type "BaseException") = some true
 u_NoRow_RoundError:PySem.W.subIn K (.ref aD) (.ref aI) = some true
 j_NoRow_NoHall:PySem.W.kitOne K (.ref aD) (.ref aC) = some false
 j_NoRow_NoListener:PySem.W.kitOne K (.ref aD) (.ref aA) = some false
 j_NoRow_TooMany:PySem.W.kitOne K (.ref aD) (.ref aB) = some false
 j_NoRow_NoRow:PySem.W.kitOne K (.ref aD) (.ref aD) = some true
 j_NoRow_NoLoss:PySem.W.kitOne K (.ref aD) (.ref aE) = some false
 j_NoRow_NoWheel:PySem.W.kitOne K (.ref aD) (.ref aK) = some false
 j_NoRow_NoChain:PySem.W.kitOne K (.ref aD) (.ref aL) = some false
 j_NoRow_TooMuch:PySem.W.kitOne K (.ref aD) (.ref aM) = some false
 j_NoRow_NoPart:PySem.W.kitOne K (.ref aD) (.ref aO) = some false
 j_NoRow_Unsafe:PySem.W.kitOne K (.ref aD) (.ref aP) = some false
 j_NoRow_NoStand:PySem.W.kitOne K (.ref aD) (.ref aN) = some false
 j_NoRow_ValueError:PySem.W.kitOne K (.ref aD) (.type "ValueError") = some true
def Aq (H:Hp) (a:Addr) (ws:List Int) (calm:Option Int):Prop := ∃ t,H a = some (.tup [.ref t,vO calm]) /\ H t = some (.tup (ws.map V.int))
def Cc (H:Hp) (b:Addr) (ls:List Int) (q:Int):Prop := ∃ u,H b = some (.tup [.ref u,.int q]) /\ H u = some (.tup (ls.map V.int))
theorem Aq.same {H H':Hp} {a:Addr} {ws:List Int} {calm:Option Int} (s:A6 H H') (h:Aq H a ws calm):Aq H' a ws calm:=by
 obtain ⟨t,h1,h2⟩ := h
 exact ⟨t,s _ _ h1,s _ _ h2⟩
theorem Cc.same {H H':Hp} {a:Addr} {ls:List Int} {q:Int} (s:A6 H H') (h:Cc H a ls q):Cc H' a ls q:=by
 obtain ⟨t,h1,h2⟩ := h
 exact ⟨t,s _ _ h1,s _ _ h2⟩
theorem Yc (c:Option Int):decide (vO c = V.cZ) = decide (c = none):=by cases c <;> simp [vO]
def Be (ws ls:List Int) (who:Nat) (lost:Bool):List Int:=if lost = true then ls.map (fun x=>x - 1) else (ls.map (fun x=>x - 1)).set who (ws.getD who 0)
def Cv (calm:Option Int) (q:Int) (lost:Bool):Int:=if lost = true then calm.getD 0 else max (q - 1) 0
def K3 (calm:Option Int) (q:Int) (lost:Bool):Prop:=lost = true -> calm ≠ none /\ q = 0
theorem F0 (ws ls:List Int) (who:Nat) (lost:Bool):(Be ws ls who lost).length = ls.length:=by
 unfold Be
 split <;> simp
theorem Q7 (x:Int):∀ ns:List Int,Pe (.int x) (ns.map V.int) = decide (x ∈ ns)
 | []=>rfl
 | n :: ns=>by
  show (Yr (V.int n) (V.int x) || Pe (.int x) (ns.map V.int)) = _
  rw [Q7 x ns]
  show ((n == x) || decide (x ∈ ns)) = _
  by_cases h:n = x
  ·simp [h]
  ·have h':¬ x = n:=fun e=>h e.symm
   simp [h,h']
theorem Mh:∀ ns:List Int,(ns.map V.int).all Fk = true
 | []=>rfl
 | n :: ns=>by
  show (Fk (V.int n) && (ns.map V.int).all Fk) = true
  rw [Mh ns]
  rfl
theorem Th {ws:List Int} {k:Nat} (h:k < ws.length):G4 (ws.map V.int) (k:Int) = some (.int (ws.getD k 0)):=by
 refine Jr ?_
 rw [List.getElem?_map,List.getElem?_eq_getElem h,List.getD_eq_getElem?_getD,List.getElem?_eq_getElem h]
 rfl
theorem Gs {n k:Nat} (h:k < n):Wu n (k:Int) = some k:=by
 unfold Wu
 rw [if_pos (by omega),if_pos (by omega)]
 simp
theorem U3 {a b:Int} {m:Nat} (ha:intBits a <= m) (hb:intBits b <= m):intBits (a + b) <= m + 1:=by
 have h:=bits_add ha hb
 rw [Nat.max_self] at h
 exact h
theorem Jt {a:Int} {n:Nat} (h:a.natAbs < 2 ^ n):intBits a <= n:=intBits_le h
theorem Ce (x:Int) {m:Int} (h:0 < m):0 <= x % m /\ x % m < m:=⟨Int.emod_nonneg x (by omega),Int.emod_lt_of_pos x h⟩
theorem Zx:(0:Int) < 10 ^ (60:Int).toNat:=by decide +kernel
def Yn (xs:List Int) (lo hi:Option Int):List Int:=(xs.drop (HT.gN xs.length 0 lo)).take (HT.gN xs.length xs.length hi - HT.gN xs.length 0 lo)
theorem Ud (xs:List Int) (lo hi:Option Int):Pp (xs.map V.int) lo hi = (Yn xs lo hi).map V.int:=by
 unfold Pp Yn
 rw [List.length_map,List.map_take,List.map_drop]
theorem U4 {a b:Int} {m n:Nat} (ha:intBits a <= m) (hb:intBits b <= n):intBits (a * b) <= m + n:=by
 apply intBits_le
 rw [Int.natAbs_mul,Nat.pow_add]
 have h1:=Nat.lt_of_lt_of_le (natAbs_lt_pow_bits a) (Nat.pow_le_pow_right (by decide) ha)
 have h2:=Nat.lt_of_lt_of_le (natAbs_lt_pow_bits b) (Nat.pow_le_pow_right (by decide) hb)
 exact Nat.mul_lt_mul'' h1 h2
theorem Ev {n:Nat} (h:n <= 10000):n < sizeLine:=Nat.lt_of_le_of_lt h (by decide)
def B1 (H H':Hp):Prop := ∀ b xs,H b = some (.tup xs) -> H' b = some (.tup xs)
theorem B1.of {H H':Hp} (s:A6 H H'):B1 H H':=fun b xs e=>s b _ e
theorem B1.trans {H H1 H2:Hp} (a:B1 H H1) (b:B1 H1 H2):B1 H H2:=fun c xs e=>b c xs (a c xs e)
theorem B1.lst {H:Hp} {D:Addr} {zs:List V} {o:HO} (h:H D = some (.lst zs)):B1 H (upd H D o):=fun b xs e=>by
 rw [A8 (Bb e h (by intro z; cases z))]
 exact e
def Ea (H:Hp) (r:List Int) (v:V):Prop := ∃ p,v = .ref p /\ H p = some (.tup (r.map V.int))
def Iw (H:Hp) (z:List Int × Int) (v:V):Prop := ∃ p u,v = .ref p /\ H p = some (.tup [.ref u,.int z.2]) /\ H u = some (.tup (z.1.map V.int))
theorem Ea.up {H H':Hp} {r:List Int} {v:V} (t:B1 H H') (h:Ea H r v):Ea H' r v:=by
 obtain ⟨p,e,h1⟩ := h
 exact ⟨p,e,t _ _ h1⟩
theorem Iw.up {H H':Hp} {z:List Int × Int} {v:V} (t:B1 H H') (h:Iw H z v):Iw H' z v:=by
 obtain ⟨p,u,e,h1,h2⟩ := h
 exact ⟨p,u,e,t _ _ h1,t _ _ h2⟩
def B0 {α:Type} (P:α -> V -> Prop) (rs:List α) (vs:List V):Prop:=vs.length = rs.length /\ ∀ (i:Nat) (r:α) (v:V),rs[i]? = some r -> vs[i]? = some v -> P r v
theorem B0.nil {α:Type} {P:α -> V -> Prop}:B0 P [] []:=⟨rfl,fun i r v e=>by cases e⟩
theorem B0.imp {α:Type} {P P':α -> V -> Prop} {rs:List α} {vs:List V} (f:∀ r v,P r v -> P' r v) (h:B0 P rs vs):B0 P' rs vs:=⟨h.1,fun i r v e1 e2=>f _ _ (h.2 i r v e1 e2)⟩
theorem B0.append {α:Type} {P:α -> V -> Prop} {rs ss:List α} {vs us:List V} (h:B0 P rs vs) (g:B0 P ss us):B0 P (rs ++ ss) (vs ++ us):=by
 refine ⟨by rw [List.length_append,List.length_append,h.1,g.1],fun i r v e1 e2=>?_⟩
 rcases Nat.lt_or_ge i rs.length with z | z
 ·rw [List.getElem?_append_left z] at e1
  rw [List.getElem?_append_left (by rw [h.1]; exact z)] at e2
  exact h.2 i r v e1 e2
 ·rw [List.getElem?_append_right z] at e1
  rw [List.getElem?_append_right (by rw [h.1]; exact z),h.1] at e2
  exact g.2 _ r v e1 e2
theorem B0.one {α:Type} {P:α -> V -> Prop} {r:α} {v:V} (h:P r v):B0 P [r] [v]:=by
 refine ⟨rfl,fun i r' v' e1 e2=>?_⟩
 cases i with
 | zero=>cases e1; cases e2; exact h
 | succ i=>cases e1
theorem B0.get {α:Type} {P:α -> V -> Prop} {rs:List α} {vs:List V} (h:B0 P rs vs) {i:Nat} {v:V} (e:vs[i]? = some v):∃ r,rs[i]? = some r /\ P r v:=by
 have hi:=(List.getElem?_eq_some_iff.mp e).1
 have hi2:i < rs.length:=by
  rw [<- h.1]
  exact hi
 have h2:rs[i]? = some rs[i]:=List.getElem?_eq_getElem hi2
 exact ⟨_,h2,h.2 i _ v h2 e⟩
def qv:Option Int -> Int
 | none=>1
 | some c=>c + 1
def B7 (q:Int) (ws:List Int):Int:=ws.foldl (· * ·) q
def O9 (r:List Int) (w:Int):List (List Int):=(List.range w.toNat).map fun t=>r ++ [1 + ((t:Nat):Int)]
def Bn (rows:List (List Int)) (w:Int):List (List Int):=rows.flatMap fun r=>O9 r w
def Bu (ws:List Int):List (List Int):=ws.foldl Bn [[]]
def Ew (r:List Int) (q:Int):List (List Int × Int):=(List.range q.toNat).map fun k=>(r,0 + ((k:Nat):Int))
def Bc (ws:List Int) (q:Int):List (List Int × Int):=(Bu ws).flatMap fun r=>Ew r q
theorem Ep {α β:Type} (f:β -> α -> β) (b:β) (xs:List α) {i:Nat} {x:α} (h:xs[i]? = some x):(xs.take (i + 1)).foldl f b = f ((xs.take i).foldl f b) x:=by
 rw [List.take_add_one,h,List.foldl_append]
 rfl
theorem Mi {α β:Type} (f:α -> List β) (xs:List α) {i:Nat} {x:α} (h:xs[i]? = some x):(xs.take (i + 1)).flatMap f = (xs.take i).flatMap f ++ f x:=by
 rw [List.take_add_one,h,List.flatMap_append]
 simp
theorem Mt {q:Int} (hq:intBits q <= 256):∀ {ws:List Int},(∀ w ∈ ws,intBits w <= 256) -> ∀ i,i <= ws.length -> intBits (B7 q (ws.take i)) <= 256 * (i + 1)
 | ws,h,0,_=>by simpa [B7] using hq
 | ws,h,i + 1,hi=>by
  have hx:ws[i]? = some ws[i]:=List.getElem?_eq_getElem (by omega)
  have ih:=Mt hq h i (by omega)
  unfold B7 at ih ⊢
  rw [Ep _ _ _ hx]
  exact Nat.le_trans (U4 ih (h _ (List.getElem_mem _))) (by omega)
theorem Rx (q:Int):∀ (ws:List Int) (a:Int),B7 (q * a) ws = q * B7 a ws
 | [],a=>rfl
 | w :: ws,a=>by
  show B7 (q * a * w) ws = q * B7 (a * w) ws
  rw [Int.mul_assoc,Rx q ws (a * w)]
theorem Kg {α β:Type} {f:α -> List β} {n:Nat}:∀ {xs:List α},(∀ x ∈ xs,(f x).length = n) -> (xs.flatMap f).length = xs.length * n
 | [],_=>by simp
 | x :: xs,h=>by
  rw [List.flatMap_cons,List.length_append,h x (List.mem_cons_self ..),Kg fun y hy=>h y (List.mem_cons_of_mem _ hy),List.length_cons,Nat.succ_mul]
  omega
theorem Qd (r:List Int) (w:Int):(O9 r w).length = w.toNat:=by simp [O9]
theorem Nq (r:List Int) (q:Int):(Ew r q).length = q.toNat:=by simp [Ew]
theorem Lq (rows:List (List Int)) (w:Int):(Bn rows w).length = rows.length * w.toNat:=Kg fun r _=>Qd r w
theorem L9:∀ (ws:List Int) (rows:List (List Int)),(∀ w ∈ ws,1 <= w) -> ((ws.foldl Bn rows).length:Int) = B7 (rows.length:Int) ws
 | [],rows,_=>rfl
 | w :: ws,rows,h=>by
  have hw:=h w (List.mem_cons_self ..)
  show ((ws.foldl Bn (Bn rows w)).length:Int) = B7 ((rows.length:Int) * w) ws
  rw [L9 ws _ (fun x hx=>h x (List.mem_cons_of_mem _ hx)),Lq]
  congr 1
  rw [Int.natCast_mul]
  congr 1
  omega
theorem Fw:∀ (ws:List Int) (a:Int),0 <= a -> (∀ w ∈ ws,1 <= w) -> a <= B7 a ws
 | [],a,_,_=>Int.le_refl _
 | w :: ws,a,ha,h=>by
  have hw:=h w (List.mem_cons_self ..)
  have h1:a <= a * w:=by
   have:=Int.mul_le_mul_of_nonneg_left hw ha
   rw [Int.mul_one] at this
   exact this
  exact Int.le_trans h1 (Fw ws (a * w) (Int.le_trans ha h1) fun x hx=>h x (List.mem_cons_of_mem _ hx))
theorem Va {ws:List Int} {a:Int} (ha:0 <= a) (h:∀ w ∈ ws,1 <= w) (i:Nat):B7 a (ws.take i) <= B7 a ws:=by
 have e:B7 a ws = B7 (B7 a (ws.take i)) (ws.drop i):=by
  unfold B7
  rw [<- List.foldl_append,List.take_append_drop]
 rw [e]
 refine Fw _ _ (Int.le_trans ha (Fw _ _ ha fun w hw=>h w (List.mem_of_mem_take hw))) fun w hw=>h w (List.mem_of_mem_drop hw)
theorem Ob {r x:List Int} {w:Int} (h:x ∈ O9 r w):∃ t:Nat,t < w.toNat /\ x = r ++ [1 + (t:Int)]:=by
 unfold O9 at h
 obtain ⟨t,h1,rfl⟩ := List.mem_map.mp h
 exact ⟨t,List.mem_range.mp h1,rfl⟩
theorem Hi (ws:List Int):∀ i,i <= ws.length -> ∀ r ∈ Bu (ws.take i),r.length = i /\ ∀ (k:Nat) (x w:Int),r[k]? = some x -> ws[k]? = some w -> 1 <= x /\ x <= w
 | 0,_,r,h=>by
  have e:r = []:=List.mem_singleton.mp h
  subst e
  exact ⟨rfl,fun k x w e=>by cases e⟩
 | i + 1,hi,r,h=>by
  have hw:ws[i]? = some ws[i]:=List.getElem?_eq_getElem (by omega)
  have e:Bu (ws.take (i + 1)) = Bn (Bu (ws.take i)) ws[i]:=Ep _ _ _ hw
  rw [e] at h
  obtain ⟨r',h1,h2⟩ := List.mem_flatMap.mp h
  obtain ⟨t,h3,rfl⟩ := Ob h2
  obtain ⟨h4,h5⟩ := Hi ws i (by omega) r' h1
  refine ⟨by simp [h4],fun k x w e1 e2=>?_⟩
  rcases Nat.lt_or_ge k r'.length with z | z
  ·rw [List.getElem?_append_left z] at e1
   exact h5 k x w e1 e2
  ·have hk : k = i := by
    have:=(List.getElem?_eq_some_iff.mp e1).1
    rw [List.length_append,List.length_singleton] at this
    omega
   subst hk
   rw [List.getElem?_append_right z,h4,Nat.sub_self] at e1
   cases e1
   rw [hw] at e2
   cases e2
   omega
def Ty (r s:List Int):Prop:=cX (r.map PyData.int) (s.map PyData.int) = true
theorem Jv (a b:Int):PyData.eqv (.int a) (.int b) = decide (a = b):=by
 show (a == b) = _
 by_cases h:a = b <;> simp [h]
theorem Oa:∀ r:List Int,¬ Ty r r
 | []=>by unfold Ty; simp [cX]
 | x :: r=>fun h=>by
  have ih:=Oa r
  unfold Ty at h ih
  rw [List.map_cons,cX,Jv,if_pos (by simp)] at h
  exact ih h
theorem Qh:∀ {r s:List Int} {x y:Int},r.length = s.length -> Ty r s -> Ty (r ++ [x]) (s ++ [y])
 | [],[],x,y,_,h=>absurd h (Oa [])
 | [],_ :: _,_,_,hl,_=>by simp at hl
 | _ :: _,[],_,_,hl,_=>by simp at hl
 | a :: r,b :: s,x,y,hl,h=>by
  unfold Ty at h ⊢
  rw [List.cons_append,List.cons_append,List.map_cons,List.map_cons,cX] at *
  by_cases e:PyData.eqv (.int a) (.int b) = true
  ·rw [if_pos e] at h ⊢
   exact Qh (r:=r) (s:=s) (by simpa using hl) h
  ·rw [if_neg e] at h ⊢
   exact h
theorem Qg:∀ {r:List Int} {x y:Int},x < y -> Ty (r ++ [x]) (r ++ [y])
 | [],x,y,h=>by
  unfold Ty
  show cX [PyData.int x] [PyData.int y] = true
  rw [cX,Jv,if_neg (by simp; omega),R3]
  exact decide_eq_true h
 | a :: r,x,y,h=>by
  unfold Ty
  rw [List.cons_append,List.cons_append,List.map_cons,List.map_cons,cX,Jv,if_pos (by simp)]
  exact Qg (r:=r) h
theorem Rl (r:List Int) (w:Int):(O9 r w).Pairwise Ty:=by
 unfold O9
 rw [List.pairwise_map]
 exact List.pairwise_lt_range.imp fun h=>Qg (by omega)
theorem J5 (ws:List Int):∀ i,i <= ws.length -> (Bu (ws.take i)).Pairwise Ty
 | 0,_=>by
  show ([[]]:List (List Int)).Pairwise Ty
  exact List.pairwise_singleton _ _
 | i + 1,hi=>by
  have hw:ws[i]? = some ws[i]:=List.getElem?_eq_getElem (by omega)
  have e:Bu (ws.take (i + 1)) = Bn (Bu (ws.take i)) ws[i]:=Ep _ _ _ hw
  rw [e]
  unfold Bn
  rw [List.pairwise_flatMap]
  refine ⟨fun r _=>Rl r _,?_⟩
  refine (J5 ws i (by omega)).imp_of_mem fun {a b} ha hb h x hx y hy=>?_
  obtain ⟨t,_,rfl⟩ := Ob hx
  obtain ⟨u,_,rfl⟩ := Ob hy
  have h1:=(Hi ws i (by omega) a ha).1
  have h2:=(Hi ws i (by omega) b hb).1
  exact Qh (by omega) h
def dS (z:List Int × Int):PyData:=dP (dT z.1) (.int z.2)
theorem Wy {a b:List Int × Int} (h:Ty a.1 b.1 \/ (a.1 = b.1 /\ a.2 < b.2)):R3 (dS a) (dS b) = true:=by
 show cX [dT a.1,.int a.2] [dT b.1,.int b.2] = true
 rw [cX,aw]
 rcases h with h | ⟨h1,h2⟩
 ·have eZ : ¬ a.1 = b.1 := fun e => by
   rw [e] at h
   exact Oa _ h
  rw [if_neg (by simpa using eZ)]
  exact h
 ·rw [if_pos (by simpa using h1),cX,Jv,if_neg (by simp; omega),R3]
  exact decide_eq_true h2
theorem Oc {r:List Int} {q:Int} {z:List Int × Int} (h:z ∈ Ew r q):z.1 = r /\ 0 <= z.2 /\ z.2 < q:=by
 unfold Ew at h
 obtain ⟨k,h1,rfl⟩ := List.mem_map.mp h
 have:=List.mem_range.mp h1
 exact ⟨rfl,by show 0 <= 0 + (k:Int); omega,by show 0 + (k:Int) < q; omega⟩
theorem P7 (ws:List Int) (q:Int):(Bc ws q).Pairwise fun a b=>R3 (dS a) (dS b) = true:=by
 unfold Bc
 rw [List.pairwise_flatMap]
 refine ⟨fun r _=>?_,?_⟩
 ·unfold Ew
  rw [List.pairwise_map]
  exact List.pairwise_lt_range.imp fun {a b} h=>Wy (a:=(r,0 + ((a:Nat):Int))) (b:=(r,0 + ((b:Nat):Int))) (.inr ⟨rfl,by show 0 + ((a:Nat):Int) < 0 + ((b:Nat):Int); omega⟩)
 ·have h:=J5 ws ws.length (Nat.le_refl _)
  rw [List.take_length] at h
  refine h.imp fun {a b} h x hx y hy=>?_
  exact Wy (.inl (by rw [(Oc hx).1,(Oc hy).1]; exact h))
theorem No {ws:List Int} {q:Int} (h:∀ w ∈ ws,1 <= w) (hq:0 <= q):((Bc ws q).length:Int) = B7 q ws:=by
 unfold Bc
 rw [Kg fun r _=>Nq r q,Int.natCast_mul]
 have e:((Bu ws).length:Int) = B7 1 ws:=L9 ws [[]] h
 rw [e,Int.toNat_of_nonneg hq,Int.mul_comm,<- Rx,Int.mul_one]
theorem Ir {ws:List Int} {q:Int} {z:List Int × Int} (h:z ∈ Bc ws q):z.1.length = ws.length /\ (∀ (k:Nat) (x w:Int),z.1[k]? = some x -> ws[k]? = some w -> 1 <= x /\ x <= w) /\ 0 <= z.2 /\ z.2 < q:=by
 obtain ⟨r,h1,h2⟩ := List.mem_flatMap.mp h
 obtain ⟨h3,h4,h5⟩ := Oc h2
 have h6:=Hi ws ws.length (Nat.le_refl _) r (by rw [List.take_length]; exact h1)
 rw [h3]
 exact ⟨h6.1,h6.2,h4,h5⟩
theorem Mw {ws:List Int} (h:∀ w ∈ ws,1 <= w) (hp:B7 1 ws <= 3000) (i:Nat):(Bu (ws.take i)).length <= 3000:=by
 have e:=L9 (ws.take i) [[]] fun w hw=>h w (List.mem_of_mem_take hw)
 have e2:=Va (ws:=ws) (a:=1) (by decide) h i
 have e3:B7 (([[]]:List (List Int)).length:Int) (ws.take i) = B7 1 (ws.take i):=rfl
 unfold Bu
 omega
def gi (H:Hp) (v:V):Option (List Int × Int) -> Prop
 | none=>v = .cZ
 | some r=>∃ b,v = .ref b /\ Cc H b r.1 r.2
def ao:Option (List Int × Int) -> PyData
 | none=>.none
 | some r=>dP (dT r.1) (.int r.2)
theorem ee {H:Hp} {v:V} {r:Option (List Int × Int)} (h:gi H v r):Rp H (ao r) v:=by
 cases r with
 | none =>
  cases h
  exact Xp
 | some r =>
  obtain ⟨b,rfl,t,h1,h2⟩ := h
  exact Zz h1 (j9 h2) (S1 _)
theorem B0.tail {α:Type} {P:α -> V -> Prop} {r:α} {v:V} {rs:List α} {vs:List V} (h:B0 P (r :: rs) (v :: vs)):P r v /\ B0 P rs vs:=⟨h.2 0 r v rfl rfl,by have:=h.1; simpa using this,fun i a b e1 e2=>h.2 (i + 1) a b e1 e2⟩
theorem Kq {α:Type} {P:α -> Prop} {xs:List α} {x:α} (h:∀ y ∈ xs,P y) (hx:P x):∀ y ∈ xs ++ [x],P y:=fun y hy=>by
 rcases List.mem_append.mp hy with z | z
 ·exact h y z
 ·cases List.mem_singleton.mp z
  exact hx
theorem Cc.up {H H':Hp} {b:Addr} {ls:List Int} {q:Int} (t:B1 H H') (h:Cc H b ls q):Cc H' b ls q:=by
 obtain ⟨u,h1,h2⟩ := h
 exact ⟨u,t _ _ h1,t _ _ h2⟩
theorem Aq.up {H H':Hp} {a:Addr} {ws:List Int} {calm:Option Int} (s:B1 H H') (h:Aq H a ws calm):Aq H' a ws calm:=by
 obtain ⟨t,h1,h2⟩ := h
 exact ⟨t,s _ _ h1,s _ _ h2⟩
theorem gi.up {H H':Hp} {v:V} {r:Option (List Int × Int)} (s:B1 H H') (h:gi H v r):gi H' v r:=by
 cases r with
 | none=>exact h
 | some r =>
  obtain ⟨b,e,h⟩ := h
  exact ⟨b,e,h.up s⟩
def En (ws ls:List Int) (cm:Option Int) (q:Int) (who:Nat) (lost:Bool):Option (List Int × Int):=if (0:Int) ∈ Be ws ls who lost then none else some (Be ws ls who lost,Cv cm q lost)
def Gh (cm:Option Int) (q:Int):Bool := !decide (cm = none) && decide (q = 0)
def Bf (ws ls:List Int) (cm:Option Int) (q:Int) (who:Nat):List (Option (List Int × Int)):=En ws ls cm q who false :: if Gh cm q = true then [En ws ls cm q who true] else []
def Ga (H:Hp) (r:Option (List Int × Int)) (v:V):Prop:=gi H v r
theorem Ga.up {H H':Hp} {v:V} {r:Option (List Int × Int)} (s:B1 H H') (h:Ga H r v):Ga H' r v:=gi.up s h
theorem B0.cons {α:Type} {P:α -> V -> Prop} {r:α} {v:V} {rs:List α} {vs:List V} (h:P r v) (g:B0 P rs vs):B0 P (r :: rs) (v :: vs):=(B0.one h).append g
theorem Mx {H:Hp}:∀ {rs:List (Option (List Int × Int))} {us:List V},B0 (Ga H) rs us -> cL H (rs.map ao) us
 | [],[],_=>by unfold cL; rfl
 | [],_ :: _,h=>by have:=h.1; simp at this
 | _ :: _,[],h=>by have:=h.1; simp at this
 | r :: rs,u :: us,h=>by
  obtain ⟨h1,h2⟩ := h.tail
  show cL H (ao r :: rs.map ao) (u :: us)
  unfold cL
  exact ⟨_,_,rfl,ee h1,Mx h2⟩
theorem Ys (r:Option (List Int × Int)):PyData.eqv (ao r) .none = decide (r = none):=by cases r <;> rfl
theorem Nx:∀ rs:List (Option (List Int × Int)),(rs.map ao).any (fun e=>PyData.eqv e .none) = decide (none ∈ rs)
 | []=>rfl
 | r :: rs=>by
  rw [List.map_cons,List.any_cons,Nx rs,Ys,Bool.eq_iff_iff]
  simp only [Bool.or_eq_true,decide_eq_true_eq,List.mem_cons]
  exact ⟨fun z=>z.imp Eq.symm id,fun z=>z.imp Eq.symm id⟩
def SV (H:Hp) (v:V):Prop := ∃ b k,v = .ref b /\ G3 H b k
def T7 (H:Hp) (cs:List (Dt × V)):Prop := ∀ e ∈ cs,(∃ i:Int,e.1 = .inl i) /\ ∃ (l:Addr) (us:List V),e.2 = .ref l /\ H l = some (.lst us) /\ us.length <= 2 /\ ∀ u ∈ us,SV H u
def gk (H:Hp) (v:V):Prop := ∃ (c:Addr) (cs:List (Dt × V)),v = .ref c /\ H c = some (.dK cs) /\ cs.length <= 8 /\ T7 H cs
def LT (H H':Hp):Prop:=(∀ b xs,H b = some (.lst xs) -> H' b = some (.lst xs)) /\ B1 H H'
theorem LT.of {H H':Hp} (s:A6 H H'):LT H H':=⟨fun b xs e=>s b _ e,B1.of s⟩
theorem LT.dT {H:Hp} {D:Addr} {kvs:List ((List Int × Int) × V)} {o:HO} (h:H D = some (.dT kvs)):LT H (upd H D o) :=
 ⟨fun b xs e=>by rw [A8 (Bb e h (by intro z; cases z))]; exact e,fun b xs e=>by rw [A8 (Bb e h (by intro z; cases z))]; exact e⟩
theorem LT.dK {H:Hp} {D:Addr} {kvs:List (Dt × V)} {o:HO} (h:H D = some (.dK kvs)):LT H (upd H D o) :=
 ⟨fun b xs e=>by rw [A8 (Bb e h (by intro z; cases z))]; exact e,fun b xs e=>by rw [A8 (Bb e h (by intro z; cases z))]; exact e⟩
theorem LT.trans {H H1 H2:Hp} (a:LT H H1) (b:LT H1 H2):LT H H2:=⟨fun c xs e=>b.1 c xs (a.1 c xs e),a.2.trans b.2⟩
def Gc (H:Hp) (kvs:List ((List Int × Int) × V)):Prop := ∀ kv ∈ kvs,gk H kv.2
theorem Qr {κ:Type} [DecidableEq κ] {P:V -> Prop} {kvs:List (κ × V)} {k:κ} {v:V} (h:∀ kv ∈ kvs,P kv.2) (hv:P v):∀ kv ∈ C8 kvs k v,P kv.2:=fun kv dD=>by
 unfold C8 at dD
 split at dD
 ·obtain ⟨x,hx,rfl⟩ := List.mem_map.mp dD
  split
  ·exact hv
  ·exact h x hx
 ·rcases List.mem_append.mp dD with z | z
  ·exact h kv z
  ·cases List.mem_singleton.mp z
   exact hv
theorem Dh {n:Nat} (h:n <= 200000):n < sizeLine:=Nat.lt_of_le_of_lt h (by decide)
theorem B8 {κ:Type} [DecidableEq κ] {kvs:List (κ × V)} {k:κ} {v:V} (h:Ao kvs k = some v):(k,v) ∈ kvs:=by
 unfold Ao at h
 obtain ⟨p,hp,rfl⟩ := Option.map_eq_some_iff.mp h
 have h1:=List.find?_some hp
 have h2:=List.mem_of_find?_eq_some hp
 have h3:p.1 = k:=by simpa using h1
 rw [<- h3]
 exact h2
theorem Jc {κ:Type} [DecidableEq κ] {kvs:List (κ × V)} {k:κ} {v:V} (h:(k,v) ∈ kvs):∃ w,Ao kvs k = some w:=by
 cases e:Ao kvs k with
 | some w=>exact ⟨w,rfl⟩
 | none=>exact absurd (List.mem_map_of_mem (f:=(·.1)) h) (R1 e)
def E8 (kvs:List ((List Int × Int) × V)) (H H':Hp):Prop := ∀ b o,H b = some o -> (∀ kv ∈ kvs,kv.2 ≠ .ref b) -> H' b = some o
theorem E8.of {kvs:List ((List Int × Int) × V)} {H H':Hp} (s:A6 H H'):E8 kvs H H':=fun b o e _=>s b o e
theorem E8.trans {kvs:List ((List Int × Int) × V)} {H H1 H2:Hp} (a:E8 kvs H H1) (b:E8 kvs H1 H2):E8 kvs H H2:=fun c o e n=>b c o (a c o e n) n
theorem E8.new {kvs:List ((List Int × Int) × V)} {H H':Hp} {p:Addr} {o:HO} (a:E8 kvs H H') (h:H p = none):E8 kvs H (upd H' p o):=fun b u e n=>by
 rw [A8 (Aa e h)]
 exact a b u e n
theorem E8.keep {kvs:List ((List Int × Int) × V)} {H H':Hp} {b:Addr} {o:HO} (a:E8 kvs H H') (p:Gc H kvs) (e:H b = some o) (n:∀ cs,o ≠ .dK cs):H' b = some o:=a b o e fun kv dD z=>by
 obtain ⟨c,cs,e1,e2,_⟩ := p kv dD
 rw [z] at e1
 cases e1
 rw [e] at e2
 exact n cs (Option.some.inj e2)
theorem E8.lt {kvs:List ((List Int × Int) × V)} {H H':Hp} (a:E8 kvs H H') (p:Gc H kvs):LT H H':=⟨fun b xs e=>a.keep p e (fun cs z=>nomatch z),fun b xs e=>a.keep p e (fun cs z=>nomatch z)⟩
theorem E8.pop {kvs:List ((List Int × Int) × V)} {H:Hp} {c:Addr} {o:HO} {kv:(List Int × Int) × V} (h:kv ∈ kvs) (e:kv.2 = .ref c):E8 kvs H (upd H c o):=fun b u eb n=>by
 rw [A8 (fun z=>n kv h (by rw [e,z]))]
 exact eb
def a7 (H:Hp):V -> Nat
 | .ref c=>match H c with
  | some (.dK cs)=>cs.length
  | _=>0
 | _=>0
def C9 (H:Hp) (kvs:List ((List Int × Int) × V)):Nat:=(kvs.map fun kv=>a7 H kv.2).sum
theorem Lu {H:Hp} {c:Addr} {cs:List (Dt × V)} (h:H c = some (.dK cs)):a7 H (.ref c) = cs.length:=by
 unfold a7
 simp only [h]
theorem Dz {H H':Hp}:∀ {kvs:List ((List Int × Int) × V)},Gc H kvs -> (∀ c cs,H c = some (.dK cs) -> H' c = some (.dK cs)) -> C9 H' kvs = C9 H kvs
 | [],_,_=>rfl
 | kv :: kvs,p,k=>by
  obtain ⟨c,cs,e,h1,_⟩ := p kv (by simp)
  have ih:=Dz (kvs:=kvs) (fun x hx=>p x (List.mem_cons_of_mem _ hx)) k
  unfold C9 at ih ⊢
  rw [List.map_cons,List.map_cons,List.sum_cons,List.sum_cons,ih,e,Lu h1,Lu (k c cs h1)]
theorem Km {H:Hp}:∀ {kvs:List ((List Int × Int) × V)},Gc H kvs -> C9 H kvs <= 8 * kvs.length
 | [],_=>Nat.zero_le _
 | kv :: kvs,p=>by
  obtain ⟨c,cs,e,h1,h2,_⟩ := p kv (by simp)
  have ih:=Km (kvs:=kvs) (fun x hx=>p x (List.mem_cons_of_mem _ hx))
  unfold C9 at ih ⊢
  rw [List.map_cons,List.sum_cons,e,Lu h1,List.length_cons]
  omega
theorem Mo {H:Hp} {c:Addr} {cs kP:List (Dt × V)} (hc:H c = some (.dK cs)) (dE:kP.length < cs.length):∀ {kvs:List ((List Int × Int) × V)},C9 (upd H c (.dK kP)) kvs <= C9 H kvs /\ ((∃ kv ∈ kvs,kv.2 = .ref c) -> C9 (upd H c (.dK kP)) kvs + 1 <= C9 H kvs)
 | []=>⟨Nat.le_refl _,fun ⟨kv,h,_⟩=>by cases h⟩
 | kv :: kvs=>by
  obtain ⟨i1,i2⟩ := Mo hc dE (kvs:=kvs)
  have one:a7 (upd H c (.dK kP)) kv.2 <= a7 H kv.2 /\ (kv.2 = .ref c -> a7 (upd H c (.dK kP)) kv.2 + 1 <= a7 H kv.2):=by
   by_cases z:kv.2 = .ref c
   ·rw [z,Lu hc,Lu A1]
    omega
   ·refine ⟨Nat.le_of_eq ?_,fun y=>absurd y z⟩
    unfold a7
    cases hv:kv.2 with
    | ref d =>
     rw [hv] at z
     have hd:d ≠ c:=fun y=>z (by rw [y])
     simp only [A8 hd]
    | _=>rfl
  unfold C9 at i1 i2 ⊢
  rw [List.map_cons,List.map_cons,List.sum_cons,List.sum_cons]
  refine ⟨by omega,fun ⟨x,hx,ex⟩=>?_⟩
  rcases List.mem_cons.mp hx with y | y
  ·subst y
   have:=one.2 ex
   omega
  ·have:=i2 ⟨x,y,ex⟩
   omega
theorem Yp {cs:List (Dt × V)} {k:Dt} {v:V} (h:Ao cs k = some v):(Bm cs k).length < cs.length:=by
 have hm:=B8 h
 unfold Bm
 exact List.length_filter_lt_length_iff_exists.mpr ⟨(k,v),hm,by simp⟩
theorem Kf {cs:List (Dt × V)} {k:Dt} {e:Dt × V} (h:e ∈ Bm cs k):e ∈ cs:=(List.mem_filter.mp h).1
def Tz (B:Addr) (H:Hp) (kvs:List ((List Int × Int) × V)):Prop := ∀ kv ∈ kvs,∀ c cs,kv.2 = .ref c -> H c = some (.dK cs) -> ∀ e ∈ cs,e.2 ≠ .ref B
theorem Tz.start {B:Addr} {H:Hp} {kvs:List ((List Int × Int) × V)} (p:Gc H kvs) (h:H B = none):Tz B H kvs:=fun kv dD c cs e1 e2 e he z=>by
 obtain ⟨d,ds,f1,f2,_,f3⟩ := p kv dD
 rw [e1] at f1
 cases f1
 rw [e2] at f2
 cases f2
 obtain ⟨_,l,us,g1,g2,_⟩ := f3 e he
 rw [z] at g1
 cases g1
 rw [h] at g2
 cases g2
theorem Tz.keep {B:Addr} {H H':Hp} {kvs:List ((List Int × Int) × V)} (n:Tz B H kvs) (p:Gc H kvs) (k:∀ c cs,H c = some (.dK cs) -> H' c = some (.dK cs)):Tz B H' kvs:=fun kv dD c cs e1 e2=>by
 obtain ⟨d,ds,f1,f2,_⟩ := p kv dD
 have JW:=f1
 rw [e1] at JW
 cases JW
 have:=k _ _ f2
 rw [e2] at this
 cases this
 exact n kv dD c cs e1 f2
theorem Tz.pop {B c:Addr} {H:Hp} {cs:List (Dt × V)} {k:Dt} {kvs:List ((List Int × Int) × V)} (n:Tz B H kvs) (hc:H c = some (.dK cs)):Tz B (upd H c (.dK (Bm cs k))) kvs:=fun kv dD d ds e1 e2 e he=>by
 by_cases z:d = c
 ·subst z
  rw [A1] at e2
  cases e2
  exact n kv dD d cs e1 hc e (Kf he)
 ·rw [A8 z] at e2
  exact n kv dD d ds e1 e2 e he
theorem Z3 (k:List Int × Int):R3 (dS k) (dS k) = false:=by
 have e1:PyData.eqv (dT k.1) (dT k.1) = true:=by
  show PyData.eqvAll (k.1.map PyData.int) (k.1.map PyData.int) = true
  rw [Fj]
  simp
 show cX [dT k.1,.int k.2] [dT k.1,.int k.2] = false
 rw [cX,if_pos e1,cX,if_pos (show PyData.eqv (.int k.2) (.int k.2) = true from PySem.SeqAt.eqv_refl _ rfl)]
 rfl
theorem Jb (ws:List Int) (q:Int):(Bc ws q).Nodup:=(P7 ws q).imp fun {a b} h e=>by
 rw [e,Z3] at h
 cases h
theorem Mr {α:Type} {xs:List α} {i:Nat} {x:α} (h:xs.Nodup) (e:xs[i]? = some x):x ∉ xs.take i:=fun z=>by
 obtain ⟨j,hj⟩ := List.mem_iff_getElem?.mp z
 have dE:j < i:=by
  apply Classical.byContradiction
  intro y
  rw [List.getElem?_take_eq_none (by omega)] at hj
  cases hj
 rw [List.getElem?_take_of_lt dE] at hj
 have h1:=(List.getElem?_eq_some_iff.mp hj)
 have h2:=(List.getElem?_eq_some_iff.mp e)
 obtain ⟨a1,a2⟩ := h1
 obtain ⟨b1,b2⟩ := h2
 exact (List.pairwise_iff_getElem.mp h) j i a1 b1 dE (a2.trans b2.symm)
theorem D1 {κ:Type} [DecidableEq κ] {kvs:List (κ × V)} {k:κ} {v:V} (hn:(kvs.map (·.1)).Nodup) (h:(k,v) ∈ kvs):Ao kvs k = some v:=by
 induction kvs with
 | nil=>cases h
 | cons p r ih =>
  rw [List.map_cons,List.nodup_cons] at hn
  rcases List.mem_cons.mp h with z | z
  ·subst z
   exact Bp rfl
  ·have hp:¬ p.1 = k:=fun e=>hn.1 (by rw [e]; exact List.mem_map_of_mem (f:=(·.1)) z)
   rw [Bo hp]
   exact ih hn.2 z
theorem Pc {κ:Type} {kvs:List (κ × V)} {x y:κ × V} (hn:(kvs.map (·.2)).Nodup) (hx:x ∈ kvs) (hy:y ∈ kvs) (e:x.2 = y.2):x = y:=by
 induction kvs with
 | nil=>cases hx
 | cons p r ih =>
  rw [List.map_cons,List.nodup_cons] at hn
  rcases List.mem_cons.mp hx with z | z <;> rcases List.mem_cons.mp hy with y' | y'
  ·rw [z,y']
  ·subst z
   exact absurd (by rw [e]; exact List.mem_map_of_mem (f:=(·.2)) y') hn.1
  ·subst y'
   exact absurd (by rw [<- e]; exact List.mem_map_of_mem (f:=(·.2)) z) hn.1
  ·exact ih hn.2 z y'
theorem Xk {κ:Type} [DecidableEq κ] {kvs:List (κ × V)} {k:κ} {v:V} {e:κ × V} (h:e ∈ C8 kvs k v):e ∈ kvs \/ e = (k,v):=by
 unfold C8 at h
 split at h
 ·obtain ⟨x,hx,rfl⟩ := List.mem_map.mp h
  split
  ·rename_i hk
   exact .inr (by rw [hk])
  ·exact .inl hx
 ·rcases List.mem_append.mp h with z | z
  ·exact .inl z
  ·exact .inr (List.mem_singleton.mp z)
theorem Rk {κ:Type} [DecidableEq κ] {kvs:List (κ × V)} {k j:κ} {v:V} (h:(Ao kvs j).isSome = true \/ j = k):(Ao (C8 kvs k v) j).isSome = true:=by
 rw [Hl]
 split
 ·rfl
 ·rename_i hn
  rcases h with h | h
  ·exact h
  ·exact absurd h hn
def Fi (ws:List Int) (cm:Option Int) (z:List Int × Int) (H:Hp) (cs:List (Dt × V)):Prop := ∀ e ∈ cs,∃ (who:Nat) (l:Addr) (us:List V),e.1 = .inl (who:Int) /\ who < ws.length /\ none ∉ Bf ws z.1 cm z.2 who /\ e.2 = .ref l /\ H l = some (.lst us) /\ B0 (Ga H) (Bf ws z.1 cm z.2 who) us
def T6 (ws:List Int) (cm:Option Int) (H:Hp) (z:List Int × Int) (v:V):Prop := ∃ (c:Addr) (cs:List (Dt × V)),v = .ref c /\ H c = some (.dK cs) /\ cs.length <= 8 /\ Fi ws cm z H cs
theorem Fi.up {ws:List Int} {cm:Option Int} {z:List Int × Int} {H H':Hp} {cs:List (Dt × V)} (t:LT H H') (h:Fi ws cm z H cs):Fi ws cm z H' cs:=fun e he=>by
 obtain ⟨who,l,us,h1,h2,h3,h4,h5,h6⟩ := h e he
 exact ⟨who,l,us,h1,h2,h3,h4,t.1 _ _ h5,h6.imp fun _ _ y=>Ga.up t.2 y⟩
theorem Fi.ok {ws:List Int} {cm:Option Int} {z:List Int × Int} {H:Hp} {cs:List (Dt × V)} (h:Fi ws cm z H cs):T7 H cs:=fun e he=>by
 obtain ⟨who,l,us,h1,h2,h3,h4,h5,h6⟩ := h e he
 refine ⟨⟨_,h1⟩,l,us,h4,h5,?_,fun u hu=>?_⟩
 ·rw [h6.1]
  unfold Bf
  split <;> simp
 ·obtain ⟨m,hm⟩ := List.mem_iff_getElem?.mp hu
  obtain ⟨r,mB,JX⟩ := h6.get hm
  cases r with
  | none=>exact absurd (List.mem_of_getElem? mB) h3
  | some r =>
   obtain ⟨bb,e,h1⟩ := JX
   exact ⟨bb,r,e,h1⟩
theorem T6.up {ws:List Int} {cm:Option Int} {z:List Int × Int} {H H':Hp} {v:V} (t:LT H H') (k:∀ c cs,H c = some (.dK cs) -> H' c = some (.dK cs)) (h:T6 ws cm H z v):T6 ws cm H' z v:=by
 obtain ⟨c,cs,e,h1,h2,h3⟩ := h
 exact ⟨c,cs,e,k _ _ h1,h2,h3.up t⟩
def Ch (ws:List Int) (cm:Option Int) (H:Hp) (kvs:List ((List Int × Int) × V)):Prop:=(∀ kv ∈ kvs,T6 ws cm H kv.1 kv.2) /\ (kvs.map (·.1)).Nodup /\ (kvs.map (·.2)).Nodup
theorem Ch.ok {ws:List Int} {cm:Option Int} {H:Hp} {kvs:List ((List Int × Int) × V)} (h:Ch ws cm H kvs):Gc H kvs:=fun kv dD=>by
 obtain ⟨c,cs,e,h1,h2,h3⟩ := h.1 kv dD
 exact ⟨c,cs,e,h1,h2,h3.ok⟩
theorem Ch.keep {ws:List Int} {cm:Option Int} {H H':Hp} {kvs:List ((List Int × Int) × V)} (p:Ch ws cm H kvs) (t:LT H H') (k:∀ c cs,H c = some (.dK cs) -> H' c = some (.dK cs)):Ch ws cm H' kvs:=⟨fun kv dD=>(p.1 kv dD).up t k,p.2⟩
def K2 (ws:List Int) (cm:Option Int) (H:Hp) (kvs:List ((List Int × Int) × V)):Prop := ∀ kv ∈ kvs,∀ c cs,kv.2 = .ref c -> H c = some (.dK cs) -> ∀ who:Nat,who < ws.length -> none ∉ Bf ws kv.1.1 cm kv.1.2 who -> (Ao cs (.inl (who:Int))).isSome = true
theorem K2.keep {ws:List Int} {cm:Option Int} {H H':Hp} {kvs:List ((List Int × Int) × V)} (f:K2 ws cm H kvs) (p:Ch ws cm H kvs) (k:∀ c cs,H c = some (.dK cs) -> H' c = some (.dK cs)):K2 ws cm H' kvs:=fun kv dD c cs e1 e2=>by
 obtain ⟨d,ds,f1,f2,_⟩ := p.1 kv dD
 have JW:=f1
 rw [e1] at JW
 cases JW
 have:=k _ _ f2
 rw [e2] at this
 cases this
 exact f kv dD c cs e1 f2
def Ak (H:Hp) (kvs:List ((List Int × Int) × V)) (k:List Int × Int) (who:Nat):Prop := ∃ (c:Addr) (cs:List (Dt × V)),Ao kvs k = some (.ref c) /\ H c = some (.dK cs) /\ (Ao cs (.inl (who:Int))).isSome = true
theorem Ee {α:Type} {xs:List α} {x:α} (h:xs.Nodup) (hx:x ∉ xs):(xs ++ [x]).Nodup:=by
 rw [List.nodup_append]
 refine ⟨h,by simp,fun a ha b hb e=>?_⟩
 rw [List.mem_singleton.mp hb] at e
 exact hx (e ▸ ha)
def Nw (ws:List Int) (cm:Option Int) (kvs:List ((List Int × Int) × V)) (H:Hp) (later:List Int × Int) (u:V):Prop := ∃ (t b:Addr) (who:Nat) (k:List Int × Int),u = .ref t /\ H t = some (.tup [.ref b,.int (who:Int)]) /\ G3 H b k /\ (∃ v,Ao kvs k = some v) /\ some later ∈ Bf ws k.1 cm k.2 who
theorem Nw.up {ws:List Int} {cm:Option Int} {kvs:List ((List Int × Int) × V)} {H H':Hp} {later:List Int × Int} {u:V} (t:B1 H H') (h:Nw ws cm kvs H later u):Nw ws cm kvs H' later u:=by
 obtain ⟨a,b,i,k,e,h1,h2,h3,h4⟩ := h
 exact ⟨a,b,i,k,e,t _ _ h1,h2.up t,h3,h4⟩
def Em (ws:List Int) (cm:Option Int) (H0:Hp) (kvs:List ((List Int × Int) × V)) (n:Nat) (H:Hp) (wv:List ((List Int × Int) × V)):Prop:=(∀ kv ∈ wv,∃ (l:Addr) (us:List V),kv.2 = .ref l /\ H0 l = none /\ H l = some (.lst us) /\ us.length <= n /\ ∀ u ∈ us,Nw ws cm kvs H kv.1 u) /\ (wv.map (·.2)).Nodup
theorem Em.up {ws:List Int} {cm:Option Int} {H0 H H':Hp} {kvs wv:List ((List Int × Int) × V)} {n m:Nat} (t:LT H H') (hn:n <= m) (h:Em ws cm H0 kvs n H wv):Em ws cm H0 kvs m H' wv:=⟨fun kv dD=>by
 obtain ⟨l,us,e,h0,h1,h2,h3⟩ := h.1 kv dD
 exact ⟨l,us,e,h0,t.1 _ _ h1,by omega,fun u hu=>(h3 u hu).up t.2⟩,h.2⟩
theorem Em.app {ws:List Int} {cm:Option Int} {H0 H:Hp} {kvs wv:List ((List Int × Int) × V)} {n:Nat} {l:Addr} {us:List V} {x:V} {later:List Int × Int} (h:Em ws cm H0 kvs n H wv) (hm:(later,V.ref l) ∈ wv) (hl:H l = some (.lst us)) (hu:us.length <= n) (ha:∀ u ∈ us,Nw ws cm kvs H later u) (hx:Nw ws cm kvs H later x):Em ws cm H0 kvs (n + 1) (upd H l (.lst (us ++ [x]))) wv:=⟨fun kv dD=>by
 have t:B1 H (upd H l (.lst (us ++ [x]))):=B1.lst hl
 obtain ⟨l2,lB,e,h0,h1,h2,h3⟩ := h.1 kv dD
 by_cases z:l2 = l
 ·subst z
  have ek:kv = (later,V.ref l2):=Pc h.2 dD hm e
  refine ⟨l2,us ++ [x],e,h0,A1,by rw [List.length_append,List.length_singleton]; omega,fun u hu=>?_⟩
  rw [ek]
  exact (Kq ha hx u hu).up t
 ·exact ⟨l2,lB,e,h0,(A8 z).trans h1,by omega,fun u hu=>(h3 u hu).up t⟩,h.2⟩
def C3 (H:Hp) (wv:List ((List Int × Int) × V)) (later k:List Int × Int) (who:Nat):Prop := ∃ (l:Addr) (us:List V) (t b:Addr),Ao wv later = some (.ref l) /\ H l = some (.lst us) /\ V.ref t ∈ us /\ H t = some (.tup [.ref b,.int (who:Int)]) /\ G3 H b k
theorem C3.up {H H':Hp} {wv:List ((List Int × Int) × V)} {later k:List Int × Int} {who:Nat} (t:LT H H') (h:C3 H wv later k who):C3 H' wv later k who:=by
 obtain ⟨l,us,a,b,h1,h2,h3,h4,h5⟩ := h
 exact ⟨l,us,a,b,h1,t.1 _ _ h2,h3,t.2 _ _ h4,h5.up t.2⟩
theorem C3.put {H:Hp} {wv:List ((List Int × Int) × V)} {later k lk:List Int × Int} {who:Nat} {v:V} (hn:Ao wv lk = none) (h:C3 H wv later k who):C3 H (C8 wv lk v) later k who:=by
 obtain ⟨l,us,a,b,h1,h2⟩ := h
 refine ⟨l,us,a,b,?_,h2⟩
 rw [Hl,if_neg (fun e=>by rw [e,hn] at h1; cases h1)]
 exact h1
theorem C3.app {H:Hp} {wv:List ((List Int × Int) × V)} {later k:List Int × Int} {who:Nat} {l:Addr} {us:List V} {x:V} (hl:H l = some (.lst us)) (h:C3 H wv later k who):C3 (upd H l (.lst (us ++ [x]))) wv later k who:=by
 have t:B1 H (upd H l (.lst (us ++ [x]))):=B1.lst hl
 obtain ⟨l2,lB,a,b,h1,h2,h3,h4,h5⟩ := h
 by_cases z:l2 = l
 ·subst z
  rw [hl] at h2
  cases h2
  exact ⟨l2,_,a,b,h1,A1,List.mem_append_left _ h3,t _ _ h4,h5.up t⟩
 ·exact ⟨l2,lB,a,b,h1,(A8 z).trans h2,h3,t _ _ h4,h5.up t⟩
theorem Pz {cs:List (Dt × V)} {k j:Dt}:Ao (Bm cs k) j = if j = k then none else Ao cs j:=by
 induction cs with
 | nil=>split <;> rfl
 | cons p r ih =>
  by_cases e:p.1 = k
  ·rw [Uj e,ih]
   by_cases z:j = k
   ·rw [if_pos z,if_pos z]
   ·rw [if_neg z,if_neg z,Bo (fun y=>z (by rw [<- y,e]))]
  ·have ed : Bm (p :: r) k = p :: Bm r k := by
    unfold Bm
    rw [List.filter_cons,if_pos (by simpa using e)]
   rw [ed]
   by_cases z:p.1 = j
   ·rw [Bp z,Bp z,if_neg (fun y=>e (z.trans y))]
   ·rw [Bo z,Bo z,ih]
theorem Ak.keep {ws:List Int} {cm:Option Int} {H H':Hp} {kvs:List ((List Int × Int) × V)} {k:List Int × Int} {who:Nat} (p:Ch ws cm H kvs) (kk:∀ c cs,H c = some (.dK cs) -> H' c = some (.dK cs)):Ak H' kvs k who ↔ Ak H kvs k who:=by
 constructor
 ·rintro ⟨c,cs,h1,h2,h3⟩
  obtain ⟨d,ds,e,f1,_⟩ := p.1 _ (B8 h1)
  cases e
  have:=kk _ _ f1
  rw [h2] at this
  cases this
  exact ⟨c,cs,h1,f1,h3⟩
 ·rintro ⟨c,cs,h1,h2,h3⟩
  exact ⟨c,cs,h1,kk _ _ h2,h3⟩
theorem Ak.pop {ws : List Int} {cm : Option Int} {H : Hp} {kvs : List ((List Int × Int) × V)} {k k' : List Int × Int} {who cK : Nat} {c : Addr} {cs : List (Dt × V)} (p : Ch ws cm H kvs) (hk : Ao kvs k = some (.ref c)) (hc : H c = some (.dK cs)) :
  Ak (upd H c (.dK (Bm cs (.inl (who:Int))))) kvs k' cK ↔ Ak H kvs k' cK /\ ¬ (k' = k /\ cK = who):=by
 constructor
 ·rintro ⟨d,ds,h1,h2,h3⟩
  by_cases z:d = c
  ·subst z
   rw [A1] at h2
   cases h2
   have ek:(k',V.ref d) = (k,V.ref d):=Pc p.2.2 (B8 h1) (B8 hk) rfl
   cases ek
   rw [Pz] at h3
   by_cases y:(Sum.inl (cK:Int):Dt) = .inl (who:Int)
   ·rw [if_pos y] at h3
    cases h3
   ·rw [if_neg y] at h3
    exact ⟨⟨d,cs,h1,hc,h3⟩,fun w=>y (by rw [w.2])⟩
  ·rw [A8 z] at h2
   refine ⟨⟨d,ds,h1,h2,h3⟩,fun w=>z ?_⟩
   rw [w.1,hk] at h1
   cases h1
   rfl
 ·rintro ⟨⟨d,ds,h1,h2,h3⟩,hn⟩
  by_cases z:d = c
  ·subst z
   have ek:(k',V.ref d) = (k,V.ref d):=Pc p.2.2 (B8 h1) (B8 hk) rfl
   cases ek
   rw [hc] at h2
   cases h2
   refine ⟨d,_,h1,A1,?_⟩
   rw [Pz,if_neg]
   ·exact h3
   ·intro y
    have y2:(cK:Int) = (who:Int):=Sum.inl.inj y
    exact hn ⟨rfl,by omega⟩
  ·exact ⟨d,ds,h1,(A8 z).trans h2,h3⟩
theorem Ch.pop {ws:List Int} {cm:Option Int} {H:Hp} {c:Addr} {cs:List (Dt × V)} {k:Dt} {kvs:List ((List Int × Int) × V)} (p:Ch ws cm H kvs) (hc:H c = some (.dK cs)):Ch ws cm (upd H c (.dK (Bm cs k))) kvs:=⟨fun kv dD=>by
 obtain ⟨d,ds,e,h1,h2,h3⟩ := p.1 kv dD
 have t:LT H (upd H c (.dK (Bm cs k))):=LT.dK hc
 by_cases z:d = c
 ·subst z
  rw [hc] at h1
  cases h1
  exact ⟨d,Bm cs k,e,A1,Nat.le_trans (Py cs k) h2,fun x hx=>(h3.up t) x (Kf hx)⟩
 ·exact ⟨d,ds,e,(A8 z).trans h1,h2,h3.up t⟩,p.2⟩
theorem Ch.JY {ws:List Int} {cm:Option Int} {B:Addr} {H H':Hp} {kvs:List ((List Int × Int) × V)} (p:Ch ws cm H kvs) (n:Tz B H kvs) (t:B1 H H') (kl:∀ l us,l ≠ B -> H l = some (.lst us) -> H' l = some (.lst us)) (k:∀ c cs,H c = some (.dK cs) -> H' c = some (.dK cs)):Ch ws cm H' kvs:=⟨fun kv dD=>by
 obtain ⟨c,cs,e1,e2,e3,e4⟩ := p.1 kv dD
 refine ⟨c,cs,e1,k _ _ e2,e3,fun e he=>?_⟩
 obtain ⟨who,l,us,g1,g2,g3,g4,g5,g6⟩ := e4 e he
 exact ⟨who,l,us,g1,g2,g3,g4,kl _ _ (fun z=>n kv dD c cs e1 e2 e he (by rw [g4,z])) g5,g6.imp fun _ _ y=>Ga.up t y⟩,p.2⟩
theorem J1:∀ {xs ys:List Int},xs.map V.int = ys.map V.int -> xs = ys
 | [],[],_=>rfl
 | [],_ :: _,h=>by cases h
 | _ :: _,[],h=>by cases h
 | x :: xs,y :: ys,h=>by
  rw [List.map_cons,List.map_cons] at h
  injection h with h1 h2
  injection h1 with h1
  rw [h1,J1 h2]
def Ph (ws:List Int) (cm:Option Int) (tv:List ((List Int × Int) × V)) (k:List Int × Int) (m:Int):Prop :=
 (∀ who,who < ws.length -> none ∈ Bf ws k.1 cm k.2 who \/ ∃ later m',some later ∈ Bf ws k.1 cm k.2 who /\ Ao tv later = some (.int m') /\ m' <= m - 1) /\
 (m = 1 \/ ∃ who,who < ws.length /\ none ∉ Bf ws k.1 cm k.2 who /\ ∀ later m',some later ∈ Bf ws k.1 cm k.2 who -> Ao tv later = some (.int m') -> m - 1 <= m')
def Dx (ws:List Int) (cm:Option Int) (tv:List ((List Int × Int) × V)):Prop :=
 (∀ k v,Ao tv k = some v -> ∃ m:Int,v = .int m /\ 1 <= m /\ k ∈ Bc ws (qv cm) /\ Ph ws cm tv k m) /\
 (∀ k,k ∈ Bc ws (qv cm) -> Ao tv k = none -> ∃ who,who < ws.length /\ none ∉ Bf ws k.1 cm k.2 who /\ ∀ later,some later ∈ Bf ws k.1 cm k.2 who -> Ao tv later = none)
def Fa (ws:List Int) (cm:Option Int) (tv:List ((List Int × Int) × V)) (eF:List (List Int × Int)) (r:Int) (Lf:(List Int × Int) -> Nat -> Prop):Prop :=
 1 <= r /\ (∀ kv ∈ tv,∃ n:Int,kv.2 = .int n /\ 1 <= n /\ n < r) /\ (∀ k ∈ eF,k ∈ Bc ws (qv cm) /\ Ao tv k = none) /\ (∀ k v,Ao tv k = some v -> k ∈ Bc ws (qv cm)) /\
 (∀ k who,Lf k who ↔ (k ∈ Bc ws (qv cm) /\ who < ws.length /\ none ∉ Bf ws k.1 cm k.2 who /\ ∀ later,some later ∈ Bf ws k.1 cm k.2 who -> Ao tv later = none)) /\
 (∀ k,k ∈ Bc ws (qv cm) -> ((∀ who,¬ Lf k who) ↔ (k ∈ eF \/ (Ao tv k).isSome = true))) /\
 (∀ k m,Ao tv k = some (.int m) -> Ph ws cm tv k m) /\ ∀ k ∈ eF,Ph ws cm tv k r
theorem Fa.done {ws:List Int} {cm:Option Int} {tv:List ((List Int × Int) × V)} {r:Int} {Lf:(List Int × Int) -> Nat -> Prop} (h:Fa ws cm tv [] r Lf):Dx ws cm tv:=by
 obtain ⟨h0,hv,fF,fA,hb,hc,UT,hd2⟩ := h
 refine ⟨fun k v e=>?_,fun k hk e=>?_⟩
 ·obtain ⟨n,e1,e2,_⟩ := hv _ (B8 e)
  have p6:v = .int n:=e1
  subst p6
  exact ⟨n,rfl,e2,fA k _ e,UT k n e⟩
 ·have hn : ¬ ∀ who, ¬ Lf k who := fun z => by
   rcases (hc k hk).mp z with y | y
   ·cases y
   ·rw [e] at y
    cases y
  obtain ⟨who,hw⟩ := Classical.not_forall.mp hn
  obtain ⟨g1,g2,g3,g4⟩ := (hb k who).mp (Classical.not_not.mp hw)
  exact ⟨who,g2,g3,g4⟩
theorem Fa.step {ws : List Int} {cm : Option Int} {tv fR : List ((List Int × Int) × V)} {eF beta : List (List Int × Int)} {r : Int} {Lf RA : (List Int × Int) -> Nat -> Prop} (h : Fa ws cm tv eF r Lf)
  (ht:∀ k,Ao fR k = if k ∈ eF then some (.int r) else Ao tv k) (oQ:∀ kv ∈ fR,∃ n:Int,kv.2 = .int n /\ 1 <= n /\ n < r + 1)
  (hl:∀ k who,RA k who ↔ (Lf k who /\ ∀ later ∈ eF,some later ∉ Bf ws k.1 cm k.2 who)) (RB:∀ k,k ∈ beta ↔ ((∃ who,Lf k who) /\ ∀ who,¬ RA k who)):Fa ws cm fR beta (r + 1) RA:=by
 obtain ⟨h0,hv,fF,fA,hb,hc,UT,hd2⟩ := h
 have nP:∀ k,Ao fR k = none ↔ (k ∉ eF /\ Ao tv k = none):=fun k=>by
  rw [ht]
  by_cases z:k ∈ eF
  ·rw [if_pos z]
   exact ⟨fun y=>(nomatch y),fun y=>absurd z y.1⟩
  ·rw [if_neg z]
   exact ⟨fun y=>⟨z,y⟩,fun y=>y.2⟩
 have old:∀ later m',Ao tv later = some (.int m') -> Ao fR later = some (.int m'):=fun later m' e=>by
  rw [ht,if_neg (fun z=>by rw [(fF later z).2] at e; cases e)]
  exact e
 have back:∀ later m',Ao fR later = some (.int m') -> (later ∈ eF /\ m' = r) \/ Ao tv later = some (.int m'):=fun later m' e=>by
  rw [ht] at e
  by_cases z:later ∈ eF
  ·rw [if_pos z] at e
   cases e
   exact .inl ⟨z,rfl⟩
  ·rw [if_neg z] at e
   exact .inr e
 have more:∀ k m,m <= r -> Ph ws cm tv k m -> Ph ws cm fR k m:=fun k m hm ⟨p1,p2⟩=>by
  refine ⟨fun who hw=>?_,?_⟩
  ·rcases p1 who hw with y | ⟨later,m',y1,y2,y3⟩
   ·exact .inl y
   ·exact .inr ⟨later,m',y1,old _ _ y2,y3⟩
  ·rcases p2 with y | ⟨who,y1,y2,y3⟩
   ·exact .inl y
   ·refine .inr ⟨who,y1,y2,fun later m' z1 z2=>?_⟩
    rcases back later m' z2 with ⟨_,e⟩ | e
    ·omega
    ·exact y3 later m' z1 e
 have sy:∀ k who,RA k who ↔ (k ∈ Bc ws (qv cm) /\ who < ws.length /\ none ∉ Bf ws k.1 cm k.2 who /\ ∀ later,some later ∈ Bf ws k.1 cm k.2 who -> Ao fR later = none):=fun k who=>by
  rw [hl,hb]
  constructor
  ·rintro ⟨⟨g1,g2,g3,g4⟩,g5⟩
   exact ⟨g1,g2,g3,fun later z=>(nP later).mpr ⟨fun y=>g5 later y z,g4 later z⟩⟩
  ·rintro ⟨g1,g2,g3,g4⟩
   exact ⟨⟨g1,g2,g3,fun later z=>((nP later).mp (g4 later z)).2⟩,fun later y z=>((nP later).mp (g4 later z)).1 y⟩
 refine ⟨by omega,oQ,fun k hk=>?_,fun k v e=>?_,sy,fun k hk=>?_,fun k m e=>?_,fun k hk=>?_⟩
 ·obtain ⟨⟨who,hw⟩,hn⟩ := (RB k).mp hk
  have hs:=((hb k who).mp hw).1
  refine ⟨hs,(nP k).mpr ⟨fun z=>?_,?_⟩⟩
  ·exact (hc k hs).mpr (.inl z) who hw
  ·cases hvk:Ao tv k with
   | none=>rfl
   | some v=>exact absurd hw ((hc k hs).mpr (.inr (by rw [hvk]; rfl)) who)
 ·rw [ht] at e
  by_cases z:k ∈ eF
  ·exact (fF k z).1
  ·rw [if_neg z] at e
   exact fA k v e
 ·constructor
  ·intro z
   by_cases y:∃ who,Lf k who
   ·exact .inl ((RB k).mpr ⟨y,z⟩)
   ·right
    rcases (hc k hk).mp (fun who w=>y ⟨who,w⟩) with x | x
    ·rw [ht,if_pos x]
     rfl
    ·obtain ⟨v,u4⟩ := Option.isSome_iff_exists.mp x
     obtain ⟨n,e1,_⟩ := hv _ (B8 u4)
     have p6:v = .int n:=e1
     rw [p6] at u4
     rw [old k n u4]
     rfl
  ·rintro (z | z) who w
   ·exact ((RB k).mp z).2 who w
   ·have w1:=((hl k who).mp w).1
    rw [ht] at z
    by_cases y:k ∈ eF
    ·exact (hc k hk).mpr (.inl y) who w1
    ·rw [if_neg y] at z
     exact (hc k hk).mpr (.inr z) who w1
 ·rcases back k m e with ⟨y1,y2⟩ | y
  ·subst y2
   exact more k m (Int.le_refl _) (hd2 k y1)
  ·obtain ⟨n,e1,e2,e3⟩ := hv _ (B8 y)
   cases e1
   exact more k m (by omega) (UT k m y)
 ·obtain ⟨⟨JZ,RC⟩,hn⟩ := (RB k).mp hk
  obtain ⟨g1,g2,g3,g4⟩ := (hb k JZ).mp RC
  refine ⟨fun who hw=>?_,.inr ⟨JZ,g2,g3,fun later m' z1 z2=>?_⟩⟩
  ·by_cases y:none ∈ Bf ws k.1 cm k.2 who
   ·exact .inl y
   ·right
    have KA:¬ ∀ later,some later ∈ Bf ws k.1 cm k.2 who -> Ao fR later = none:=fun z=>hn who ((sy k who).mpr ⟨g1,hw,y,z⟩)
    obtain ⟨later,hx⟩ := Classical.not_forall.mp KA
    obtain ⟨x1,x2⟩ := Classical.not_imp.mp hx
    cases UU:Ao fR later with
    | none=>exact absurd UU x2
    | some v =>
     obtain ⟨n,e1,e2,e3⟩ := oQ _ (B8 UU)
     have p6:v = .int n:=e1
     exact ⟨later,n,x1,by rw [UU,p6],by omega⟩
  ·rcases back later m' z2 with ⟨_,e⟩ | e
   ·omega
   ·rw [g4 later z1] at e
    cases e
theorem bo {κ:Type} [DecidableEq κ] {kvs:List (κ × V)} {k:κ} {v:V} (hn:(kvs.map (·.1)).Nodup):((C8 kvs k v).map (·.1)).Nodup:=by
 cases e:Ao kvs k with
 | none =>
  rw [Hf v e,List.map_append]
  exact Ee hn (R1 e)
 | some w =>
  have hk:(kvs.any fun kv=>decide (kv.1 = k)) = true:=by
   rw [E7,e]
   rfl
  unfold C8
  rw [if_pos hk,List.map_map]
  have:(kvs.map ((fun x=>x.1) ∘ fun kv=>if kv.1 = k then (kv.1,v) else kv)) = kvs.map (·.1):=by
   apply List.map_congr_left
   intro x _
   show (if x.1 = k then (x.1,v) else x).1 = x.1
   split <;> rfl
  rw [this]
  exact hn
def Vt (H:Hp) (v:V):Prop := ∃ c,v = .ref c /\ H c = some (.dK [])
theorem Fa.start {ws:List Int} {cm:Option Int} {H:Hp} {kvs:List ((List Int × Int) × V)} {eF:List (List Int × Int)} (hp:Ch ws cm H kvs) (hk:kvs.map (·.1) = Bc ws (qv cm)) (hf:K2 ws cm H kvs) (hr:∀ k,k ∈ eF ↔ ∃ v,(k,v) ∈ kvs /\ Vt H v):Fa ws cm [] eF 1 (Ak H kvs):=by
 have mem:∀ k,k ∈ Bc ws (qv cm) ↔ ∃ v,(k,v) ∈ kvs:=fun k=>by
  rw [<- hk,List.mem_map]
  exact ⟨fun ⟨x,h1,h2⟩=>⟨x.2,by rw [<- h2]; exact h1⟩,fun ⟨v,h1⟩=>⟨_,h1,rfl⟩⟩
 have hb:∀ k who,Ak H kvs k who ↔ (k ∈ Bc ws (qv cm) /\ who < ws.length /\ none ∉ Bf ws k.1 cm k.2 who):=fun k who=>by
  constructor
  ·rintro ⟨c,cs,h1,h2,h3⟩
   have hm:=B8 h1
   obtain ⟨d,ds,e,f1,_,f2⟩ := hp.1 _ hm
   cases e
   rw [h2] at f1
   cases f1
   obtain ⟨w',pq⟩ := Option.isSome_iff_exists.mp h3
   obtain ⟨pF,l,us,g1,g2,g3,_⟩ := f2 _ (B8 pq)
   have g1':(who:Int) = (pF:Int):=Sum.inl.inj g1
   have:who = pF:=by omega
   subst this
   exact ⟨(mem k).mpr ⟨_,hm⟩,g2,g3⟩
  ·rintro ⟨h1,h2,h3⟩
   obtain ⟨v,hm⟩ := (mem k).mp h1
   obtain ⟨c,cs,e,f1,_,f2⟩ := hp.1 _ hm
   have e':v = .ref c:=e
   subst e'
   exact ⟨c,cs,D1 hp.2.1 hm,f1,hf _ hm c cs rfl f1 who h2 h3⟩
 have hc:∀ k,k ∈ Bc ws (qv cm) -> ((∀ who,¬ Ak H kvs k who) ↔ k ∈ eF):=fun k iE=>by
  obtain ⟨v,hm⟩ := (mem k).mp iE
  obtain ⟨c,cs,e,f1,_,f2⟩ := hp.1 _ hm
  have e':v = .ref c:=e
  subst e'
  rw [hr]
  constructor
  ·intro z
   refine ⟨_,hm,c,rfl,?_⟩
   cases cs with
   | nil=>exact f1
   | cons x xs =>
    obtain ⟨who,l,us,g1,_⟩ := f2 x (by simp)
    exact absurd ⟨c,_,D1 hp.2.1 hm,f1,by rw [Bp g1]; rfl⟩ (z who)
  ·rintro ⟨v',jS,c',e1,e2⟩ who ⟨c2,cs2,g1,g2,g3⟩
   have h1:=D1 hp.2.1 hm
   rw [D1 hp.2.1 jS,e1] at h1
   cases h1
   rw [D1 hp.2.1 hm] at g1
   cases g1
   rw [e2] at g2
   cases g2
   cases g3
 refine ⟨Int.le_refl _,(fun kv z=>by cases z),fun k kY=>?_,(fun k v z=>by cases z),fun k who=>?_,fun k iE=>?_,(fun k m z=>by cases z),fun k kY=>?_⟩
 ·obtain ⟨v,hm,_⟩ := (hr k).mp kY
  exact ⟨(mem k).mpr ⟨v,hm⟩,rfl⟩
 ·rw [hb]
  exact ⟨fun z=>⟨z.1,z.2.1,z.2.2,fun _ _=>rfl⟩,fun z=>⟨z.1,z.2.1,z.2.2.1⟩⟩
 ·rw [hc k iE]
  exact ⟨fun z=>.inl z,fun z=>z.elim id (fun y=>by cases y)⟩
 ·obtain ⟨v,hm,_⟩ := (hr k).mp kY
  have iE:=(mem k).mpr ⟨v,hm⟩
  refine ⟨fun who hw=>?_,.inl rfl⟩
  left
  apply Classical.byContradiction
  intro y
  exact (hc k iE).mpr kY who ((hb k who).mpr ⟨iE,hw,y⟩)
def Zv (cm:Option Int) (q:Int):List Bool:=if Gh cm q = true then [false,true] else [false]
def wd (x:Int × Int):PyData:=dP (.int x.1) (.int x.2)
def Ki (x y:Int × Int):Bool:=decide (y.1 < x.1 \/ (x.1 = y.1 /\ y.2 < x.2))
theorem Hy (a b:Int):PyData.eqv (.int a) (.int b) = decide (a = b):=rfl
theorem az (x y:Int × Int):Vr (wd x) (wd y) = Ki x y:=by
 obtain ⟨a,b⟩ := x
 obtain ⟨c,d⟩ := y
 show (if PyData.eqv (.int a) (.int c) = true then (if PyData.eqv (.int b) (.int d) = true then dN [] [] else Vr (.int b) (.int d)) else Vr (.int a) (.int c)) = decide (c < a \/ (a = c /\ d < b))
 rw [Hy,Hy]
 show (if decide (a = c) = true then (if decide (b = d) = true then false else decide (b > d)) else decide (a > c)) = decide (c < a \/ (a = c /\ d < b))
 by_cases h1:a = c
 ·rw [if_pos (decide_eq_true h1)]
  by_cases h2:b = d
  ·rw [if_pos (decide_eq_true h2)]
   exact (decide_eq_false (by omega)).symm
  ·rw [if_neg (by simpa using h2)]
   exact decide_eq_decide.mpr (by omega)
 ·rw [if_neg (by simpa using h1)]
  exact decide_eq_decide.mpr (by omega)
theorem Wz (x y:Int × Int):R3 (wd x) (wd y) = Ki y x:=by
 obtain ⟨a,b⟩ := x
 obtain ⟨c,d⟩ := y
 show (if PyData.eqv (.int a) (.int c) = true then (if PyData.eqv (.int b) (.int d) = true then cX [] [] else R3 (.int b) (.int d)) else R3 (.int a) (.int c)) = decide (a < c \/ (c = a /\ b < d))
 rw [Hy,Hy]
 show (if decide (a = c) = true then (if decide (b = d) = true then false else decide (b < d)) else decide (a < c)) = decide (a < c \/ (c = a /\ b < d))
 by_cases h1:a = c
 ·rw [if_pos (decide_eq_true h1)]
  by_cases h2:b = d
  ·rw [if_pos (decide_eq_true h2)]
   exact (decide_eq_false (by omega)).symm
  ·rw [if_neg (by simpa using h2)]
   exact decide_eq_decide.mpr (by omega)
 ·rw [if_neg (by simpa using h1)]
  exact decide_eq_decide.mpr (by omega)
theorem W0 (x y:Int × Int):Ho (wd x) (wd y):=by
 show Ho (.tuple [.int x.1,.int x.2]) (.tuple [.int y.1,.int y.2])
 simp [Ho,fW]
theorem Kd (x:Int × Int):(wd x).depth <= 50:=by
 show (dP _ _).depth <= 50
 rw [Wa]
 show max 0 0 + 1 <= 50
 decide
theorem Tr {H:Hp} {p:Addr} {x:Int × Int} (h:H p = some (.tup [.int x.1,.int x.2])):Rp H (wd x) (.ref p):=Zz h (S1 _) (S1 _)
theorem Wi (x y:Int × Int):PyData.eqv (wd x) (wd y) = decide (x = y):=by
 obtain ⟨a,b⟩ := x
 obtain ⟨c,d⟩ := y
 show PyData.eqv (dP _ _) (dP _ _) = _
 rw [av,Hy,Hy]
 by_cases h1:a = c <;> by_cases h2:b = d <;> simp [h1,h2]
theorem Nz (f:Nat -> Int × Int):∀ k,argBest (fun i j=>Ki (f i) (f j)) k <= k /\ ∀ j,j <= k -> Ki (f j) (f (argBest (fun i j=>Ki (f i) (f j)) k)) = false
 | 0=>⟨Nat.le_refl _,fun j hj=>by
  have e:j = 0:=by omega
  subst e
  show Ki (f 0) (f 0) = false
  unfold Ki
  exact decide_eq_false (by omega)⟩
 | k + 1=>by
  obtain ⟨h1,h2⟩ := Nz f k
  rw [Du]
  generalize argBest (fun i j=>Ki (f i) (f j)) k = b at h1 h2 ⊢
  by_cases z:Ki (f (k + 1)) (f b) = true
  ·rw [if_pos z]
   refine ⟨Nat.le_refl _,fun j hj=>?_⟩
   unfold Ki at z h2 ⊢
   have z':=of_decide_eq_true z
   refine decide_eq_false ?_
   rcases Nat.lt_or_ge k j with y | y
   ·have e:j = k + 1:=by omega
    subst e
    omega
   ·have:=of_decide_eq_false (h2 j y)
    omega
  ·rw [if_neg z]
   refine ⟨by omega,fun j hj=>?_⟩
   rcases Nat.lt_or_ge k j with y | y
   ·have e:j = k + 1:=by omega
    subst e
    simpa using z
   ·exact h2 j y
def Qx:Option V -> Int × Int
 | some (.int m)=>(0,m)
 | _=>(1,0)
def told (tv:List ((List Int × Int) × V)):Option (List Int × Int) -> Int × Int
 | none=>(0,0)
 | some k=>Qx (Ao tv k)
def i8 (x y:Int × Int):Int × Int:=if Ki x y = true then y else x
def Pd (tv:List ((List Int × Int) × V)) (ws ls:List Int) (cm:Option Int) (q:Int) (who:Nat):Int × Int :=
 if Gh cm q = true then i8 (told tv (En ws ls cm q who false)) (told tv (En ws ls cm q who true)) else told tv (En ws ls cm q who false)
def Pj (tv:List ((List Int × Int) × V)):Prop := ∀ k v,Ao tv k = some v -> ∃ m:Int,v = .int m
theorem Qu {H:Hp}:∀ {ds:List PyData} {us:List V},us.length = ds.length -> (∀ (i:Nat) (d:PyData) (u:V),ds[i]? = some d -> us[i]? = some u -> Rp H d u) -> cL H ds us
 | [],us,hl,_=>by
  unfold cL
  exact List.length_eq_zero_iff.mp hl
 | d :: ds,[],hl,_=>by simp at hl
 | d :: ds,u :: us,hl,h=>by
  unfold cL
  exact ⟨u,us,rfl,h 0 d u rfl rfl,Qu (by simpa using hl) fun i d' u' h1 h2=>h (i + 1) d' u' (by simpa using h1) (by simpa using h2)⟩
theorem Yl {f:Nat -> Int × Int} {n:Nat} (hn:0 < n):Dj ((List.range n).map fun i=>wd (f i)) < n /\ ∀ j,j < n -> Ki (f j) (f (Dj ((List.range n).map fun i=>wd (f i)))) = false:=by
 have e:Dj ((List.range n).map fun i=>wd (f i)) = argBest (fun i j=>Ki (f i) (f j)) (n - 1):=by
  unfold Dj
  rw [List.length_map,List.length_range]
  have key:∀ k,k <= n - 1 -> argBest (fun i j=>Vr (((List.range n).map fun i=>wd (f i)).getD i .none) (((List.range n).map fun i=>wd (f i)).getD j .none)) k = argBest (fun i j=>Ki (f i) (f j)) k:=fun k=>by
   induction k with
   | zero=>exact fun _=>rfl
   | succ k ih =>
    intro hk
    have b:=(Nz f k).1
    rw [Du,Du,ih (by omega)]
    generalize argBest (fun i j=>Ki (f i) (f j)) k = b0 at b ⊢
    have g:∀ i,i < n -> ((List.range n).map fun i=>wd (f i)).getD i .none = wd (f i):=fun i hi=>by
     rw [List.getD_eq_getElem?_getD,List.getElem?_map,List.getElem?_range hi]
     rfl
    show (if Vr (((List.range n).map fun i=>wd (f i)).getD (k + 1) .none) (((List.range n).map fun i=>wd (f i)).getD b0 .none) = true then _ else _) = _
    rw [g _ (by omega),g _ (by omega),az]
  exact key (n - 1) (Nat.le_refl _)
 rw [e]
 obtain ⟨h1,h2⟩ := Nz f (n - 1)
 exact ⟨by omega,fun j hj=>h2 j (by omega)⟩
theorem Hh {ws:List Int} {cm:Option Int} {tv:List ((List Int × Int) × V)} (h:Dx ws cm tv):Pj tv:=fun k v e=>by
 obtain ⟨m,e1,_⟩ := h.1 k v e
 exact ⟨m,e1⟩
def G5 (f:Nat -> Int × Int) (n j:Nat):Prop:=j < n /\ (∀ i,i < n -> Ki (f i) (f j) = false) /\ ∀ m,m < j -> f m ≠ f j
theorem i7 {Pr:Nat -> Prop}:∀ (b:Nat),Pr b -> ∃ j,j <= b /\ Pr j /\ ∀ m,m < j -> ¬ Pr m:=fun b=>by
 induction b using Nat.strongRecOn with
 | ind b ih =>
  intro hb
  by_cases z:∃ m,m < b /\ Pr m
  ·obtain ⟨m,h1,h2⟩ := z
   obtain ⟨j,j1,j2,j3⟩ := ih m h1 h2
   exact ⟨j,by omega,j2,j3⟩
  ·exact ⟨b,Nat.le_refl _,hb,fun m hm hp=>z ⟨m,hm,hp⟩⟩
theorem Wq {x y:Int × Int} (h1:Ki x y = false) (h2:Ki y x = false):x = y:=by
 obtain ⟨a,b⟩ := x
 obtain ⟨c,d⟩ := y
 unfold Ki at h1 h2
 have g1:=of_decide_eq_false h1
 have g2:=of_decide_eq_false h2
 have e1:a = c:=by
  simp only at g1 g2
  omega
 have e2:b = d:=by
  simp only at g1 g2
  omega
 rw [e1,e2]
theorem G5.uniq {f:Nat -> Int × Int} {n j k:Nat} (h:G5 f n j) (g:G5 f n k):j = k:=by
 have e:f j = f k:=Wq (g.2.1 j h.1) (h.2.1 k g.1)
 rcases Nat.lt_trichotomy j k with z | z | z
 ·exact absurd e (g.2.2 j z)
 ·exact z
 ·exact absurd e.symm (h.2.2 k z)
theorem G5.of {f:Nat -> Int × Int} {n j:Nat} (hn:0 < n) (hj:j <= Dj ((List.range n).map fun i=>wd (f i))) (e:f j = f (Dj ((List.range n).map fun i=>wd (f i)))) (h:∀ m,m < j -> ¬ f m = f (Dj ((List.range n).map fun i=>wd (f i)))):G5 f n j:=by
 obtain ⟨b1,b2⟩ := Yl (f:=f) hn
 refine ⟨by omega,fun i hi=>by rw [e]; exact b2 i hi,fun m hm=>by rw [e]; exact h m hm⟩
def R7 (H:Hp) (f:Nat -> Int × Int) (ys:List V):Prop := ∀ (i:Nat) (u:V),ys[i]? = some u -> ∃ p,u = .ref p /\ H p = some (.tup [.int (f i).1,.int (f i).2])
theorem R7.snoc {H H':Hp} {f:Nat -> Int × Int} {ys:List V} {p:Addr} {n:Nat} (h:R7 H f ys) (t:B1 H H') (hn:ys.length = n) (e:H' p = some (.tup [.int (f n).1,.int (f n).2])):R7 H' f (ys ++ [.ref p]):=fun i u hu=>by
 rcases Nat.lt_or_ge i ys.length with y | y
 ·rw [List.getElem?_append_left y] at hu
  obtain ⟨p3,e1,e2⟩ := h i u hu
  exact ⟨p3,e1,t _ _ e2⟩
 ·rw [List.getElem?_append_right y] at hu
  have hi0:i - ys.length = 0:=by
   have:=(List.getElem?_eq_some_iff.mp hu).1
   rw [List.length_singleton] at this
   omega
  rw [hi0] at hu
  cases hu
  have ei:i = n:=by omega
  subst ei
  exact ⟨p,rfl,e⟩
theorem R7.rp {H:Hp} {f:Nat -> Int × Int} {ys:List V} {n:Nat} (h:R7 H f ys) (hn:ys.length = n):cL H ((List.range n).map fun i=>wd (f i)) ys:=by
 refine Qu (by rw [List.length_map,List.length_range]; exact hn) fun i d u h1 h2=>?_
 obtain ⟨p3,e1,e2⟩ := h i u h2
 subst e1
 rw [List.getElem?_map] at h1
 obtain ⟨i',sm,rfl⟩ := Option.map_eq_some_iff.mp h1
 have UW:i < n:=by
  have:=(List.getElem?_eq_some_iff.mp h2).1
  omega
 rw [List.getElem?_range UW] at sm
 cases sm
 exact Tr e2
theorem Ta (f:Nat -> Int × Int) (n:Nat):∀ d ∈ (List.range n).map fun i=>wd (f i),∀ e ∈ (List.range n).map fun i=>wd (f i),Ho d e:=fun d hd e he=>by
 obtain ⟨i1,_,rfl⟩ := List.mem_map.mp hd
 obtain ⟨i2,_,rfl⟩ := List.mem_map.mp he
 exact W0 _ _
theorem Td (f:Nat -> Int × Int) (n:Nat):∀ d ∈ (List.range n).map fun i=>wd (f i),d.depth <= 50:=fun d hd=>by
 obtain ⟨i1,_,rfl⟩ := List.mem_map.mp hd
 exact Kd _
theorem Yu (f:Nat -> Int × Int) {n i:Nat} (h:i < n):((List.range n).map fun i=>wd (f i))[i]? = some (wd (f i)):=by
 rw [List.getElem?_map,List.getElem?_range h]
 rfl
theorem Wp {f:Nat -> Int × Int} {n i:Nat} {e:PyData} (h:((List.range n).map fun i=>wd (f i))[i]? = some e):e = wd (f i):=by
 rw [List.getElem?_map] at h
 obtain ⟨i',sm,rfl⟩ := Option.map_eq_some_iff.mp h
 have UW:i < n:=by
  have:=(List.getElem?_eq_some_iff.mp sm).1
  rwa [List.length_range] at this
 rw [List.getElem?_range UW] at sm
 cases sm
 rfl
theorem Vn {a b:Str} (ha:PyData.strOk a = true) (hb:PyData.strOk b = true):PyData.strOk (a ++ b) = true:=by
 unfold PyData.strOk at *
 rw [Str.cps_append,Array.all_append,ha,hb]
 rfl
theorem Wn {ls:List Int} {j:Nat} (h:j < ls.length):ls[j]? = some (ls.getD j 0):=by
 rw [List.getD_eq_getElem?_getD,List.getElem?_eq_getElem h]
 rfl
theorem Ml {ls:List Int} {j:Nat} (h:j < ls.length):ls.getD j 0 ∈ ls:=List.mem_of_getElem? (Wn h)
theorem Kh {xs:List Int} {i:Nat} (h:i < xs.length):xs[i]? = some (xs.getD i 0):=by
 rw [List.getD_eq_getElem?_getD,List.getElem?_eq_getElem h]
 rfl
theorem Tp:∀ (ws:List Int) (rows:List (List Int)) (r0 ext:List Int),r0 ∈ rows -> ext.length = ws.length -> (∀ i,i < ws.length -> 1 <= ext.getD i 0 /\ ext.getD i 0 <= ws.getD i 0) -> r0 ++ ext ∈ ws.foldl Bn rows
 | [],rows,r0,ext,h,hl,_=>by
  have e:ext = []:=List.length_eq_zero_iff.mp hl
  rw [e,List.append_nil]
  exact h
 | w :: ws,rows,r0,[],h,hl,_=>by simp at hl
 | w :: ws,rows,r0,x :: ext,h,hl,hb=>by
  have h0:=hb 0 (by simp)
  have hx:1 <= x /\ x <= w:=h0
  have iH:r0 ++ [x] ∈ Bn rows w:=by
   refine List.mem_flatMap.mpr ⟨r0,h,List.mem_map.mpr ⟨(x - 1).toNat,List.mem_range.mpr (by omega),?_⟩⟩
   have e:1 + (((x - 1).toNat:Nat):Int) = x:=by omega
   rw [e]
  have ih:=Tp ws (Bn rows w) (r0 ++ [x]) ext iH (by simpa using hl) fun i hi=>hb (i + 1) (by simp; omega)
  rw [List.append_assoc] at ih
  exact ih
theorem Qv {ws:List Int} {q:Int} {z:List Int × Int} (h1:z.1.length = ws.length) (h2:∀ i,i < ws.length -> 1 <= z.1.getD i 0 /\ z.1.getD i 0 <= ws.getD i 0) (h3:0 <= z.2) (h4:z.2 < q):z ∈ Bc ws q:=by
 refine List.mem_flatMap.mpr ⟨z.1,?_,List.mem_map.mpr ⟨z.2.toNat,List.mem_range.mpr (by omega),?_⟩⟩
 ·have:=Tp ws [[]] [] z.1 (by simp) h1 h2
  exact this
 ·have e:0 + ((z.2.toNat:Nat):Int) = z.2:=by omega
  rw [e]
theorem G1 {ws:List Int} {q:Int} {z:List Int × Int} (h:z ∈ Bc ws q):z.1.length = ws.length /\ (∀ i,i < ws.length -> 1 <= z.1.getD i 0 /\ z.1.getD i 0 <= ws.getD i 0) /\ 0 <= z.2 /\ z.2 < q:=by
 obtain ⟨m1,m2,m3,m4⟩ := Ir h
 exact ⟨m1,fun i hi=>m2 i _ _ (Kh (by omega)) (Kh hi),m3,m4⟩
theorem Uu {ws ls:List Int} {who i:Nat} {lost:Bool} (hi:i < ls.length):(Be ws ls who lost)[i]? = some (if i = who /\ lost = false then ws.getD who 0 else ls.getD i 0 - 1):=by
 have e:(ls.map fun x=>x - 1)[i]? = some (ls.getD i 0 - 1):=by
  rw [List.getElem?_map,List.getElem?_eq_getElem hi,List.getD_eq_getElem?_getD,List.getElem?_eq_getElem hi]
  rfl
 unfold Be
 cases lost with
 | true =>
  rw [if_pos rfl,if_neg (fun z=>nomatch z.2)]
  exact e
 | false =>
  rw [if_neg Bool.false_ne_true,List.getElem?_set]
  by_cases z:i = who
  ·subst z
   rw [if_pos rfl,if_pos (by rw [List.length_map]; exact hi),if_pos ⟨rfl,rfl⟩]
  ·rw [if_neg (fun y=>z y.symm),if_neg (fun y=>z y.1)]
   exact e
theorem Z1 {ws ls:List Int} {who i:Nat} {lost:Bool} (hi:i < ls.length):(Be ws ls who lost).getD i 0 = if i = who /\ lost = false then ws.getD who 0 else ls.getD i 0 - 1:=by
 rw [List.getD_eq_getElem?_getD,Uu hi]
 rfl
theorem Vw {ws ls:List Int} {cm:Option Int} {q:Int} {who:Nat} {lost:Bool} {k:List Int × Int} (h:En ws ls cm q who lost = some k):(0:Int) ∉ Be ws ls who lost /\ k = (Be ws ls who lost,Cv cm q lost):=by
 unfold En at h
 by_cases z:(0:Int) ∈ Be ws ls who lost
 ·rw [if_pos z] at h
  cases h
 ·rw [if_neg z] at h
  exact ⟨z,(Option.some.inj h).symm⟩
theorem aj {ws:List Int} {cm:Option Int} {k l:List Int × Int} {who:Nat} {lost:Bool} (fB:∀ w ∈ ws,1 <= w) (hk:k ∈ Bc ws (qv cm)) (pG:who < ws.length) (QW:lost ∈ Zv cm k.2) (h:En ws k.1 cm k.2 who lost = some l):l ∈ Bc ws (qv cm):=by
 obtain ⟨g1,g2,g3,g4⟩ := G1 hk
 obtain ⟨hz,rfl⟩ := Vw h
 have hwp:1 <= ws.getD who 0:=fB _ (Ml pG)
 have hlen:(Be ws k.1 who lost).length = k.1.length:=F0 _ _ _ _
 refine Qv (by rw [hlen]; exact g1) (fun i hi=>?_) ?_ ?_
 ·have b:=g2 i hi
  have eZ:(Be ws k.1 who lost).getD i 0 ≠ 0:=fun e=>by
   have:=Kh (xs:=Be ws k.1 who lost) (i:=i) (by omega)
   rw [e] at this
   exact hz (List.mem_of_getElem? this)
  show 1 <= (Be ws k.1 who lost).getD i 0 /\ (Be ws k.1 who lost).getD i 0 <= ws.getD i 0
  rw [Z1 (by omega)] at eZ ⊢
  by_cases y:i = who /\ lost = false
  ·rw [if_pos y,y.1]
   omega
  ·rw [if_neg y] at eZ
   rw [if_neg y]
   omega
 ·show 0 <= Cv cm k.2 lost
  unfold Cv
  cases lost with
  | true =>
   rw [if_pos rfl]
   cases cm with
   | none=>exact Int.le_refl _
   | some c =>
    show 0 <= c
    have:k.2 < c + 1:=g4
    omega
  | false =>
   rw [if_neg Bool.false_ne_true]
   omega
 ·show Cv cm k.2 lost < qv cm
  unfold Cv
  cases lost with
  | true =>
   rw [if_pos rfl]
   cases cm with
   | none=>decide
   | some c =>
    show c < c + 1
    omega
  | false =>
   rw [if_neg Bool.false_ne_true]
   have:0 < qv cm:=by omega
   omega
theorem Zp {α:Type} {xs:List α} {i:Nat} {x:α} (h:xs[i]? = some x):xs.take (i + 1) = xs.take i ++ [x]:=by
 rw [List.take_add_one,h]
 rfl
def kr (tv:List ((List Int × Int) × V)) (m:Int):Prop := ∃ kv ∈ tv,kv.2 = .int m
theorem Qm {ws:List Int} {cm:Option Int} {tv:List ((List Int × Int) × V)} (h:Dx ws cm tv) (hn:(tv.map (·.1)).Nodup):∀ (n:Nat) (m:Int),kr tv m -> 1 <= m - n -> kr tv (m - n)
 | 0,m,ho,_=>by
  rw [show m - ((0:Nat):Int) = m by omega]
  exact ho
 | n + 1,m,ho,hm=>by
  obtain ⟨kv,dD,e⟩ := ho
  have hv:=D1 hn (show (kv.1,kv.2) ∈ tv from dD)
  rw [e] at hv
  obtain ⟨m0,e0,h1,_,p1,p2⟩ := h.1 _ _ hv
  cases e0
  rcases p2 with z | ⟨who,y1,y2,y3⟩
  ·omega
  ·rcases p1 who y1 with z | ⟨later,ml,z1,z2,z3⟩
   ·exact absurd z y2
   ·have hml:=y3 later ml z1 z2
    have em:ml = m - 1:=by omega
    have:=Qm h hn n (m - 1) ⟨(later,.int ml),B8 z2,by rw [em]⟩ (by omega)
    rw [show m - ((n + 1:Nat):Int) = m - 1 - (n:Int) by omega]
    exact this
theorem Mu {ws:List Int} {cm:Option Int} {tv fR:List ((List Int × Int) × V)} (h:Dx ws cm tv) (h':Dx ws cm fR):∀ (n:Nat) (k:List Int × Int) (m:Int),m <= n -> Ao tv k = some (.int m) -> (Ao fR k).isSome = true
 | 0,k,m,hm,hk=>by
  obtain ⟨m0,e,h1,_⟩ := h.1 k _ hk
  cases e
  omega
 | n + 1,k,m,hm,hk=>by
  obtain ⟨m0,e,h1,iE,p1,_⟩ := h.1 k _ hk
  cases e
  cases hv:Ao fR k with
  | some v=>rfl
  | none =>
   obtain ⟨who,y1,y2,y3⟩ := h'.2 k iE hv
   rcases p1 who y1 with z | ⟨later,m',z1,z2,z3⟩
   ·exact absurd z y2
   ·have:=Mu h h' n later m' (by omega) z2
    rw [y3 later z1] at this
    cases this
theorem Fz {ws:List Int} {cm:Option Int}:∀ (n:Nat) {tv fR:List ((List Int × Int) × V)},Dx ws cm tv -> Dx ws cm fR -> ∀ (k:List Int × Int) (m:Int),m <= n -> Ao tv k = some (.int m) -> Ao fR k = some (.int m)
 | 0,tv,fR,h,h',k,m,hm,hv=>by
  obtain ⟨m0,e,h1,_⟩ := h.1 k _ hv
  cases e
  omega
 | n + 1,tv,fR,h,h',k,m,hm,hv=>by
  have ih1:=@Fz ws cm n tv fR h h'
  have ih2:=@Fz ws cm n fR tv h' h
  obtain ⟨m0,e,h1,iE,p1,p2⟩ := h.1 k _ hv
  cases e
  have hs:(Ao fR k).isSome = true:=Mu h h' m.toNat k m (by omega) hv
  obtain ⟨v',oQ⟩ := Option.isSome_iff_exists.mp hs
  obtain ⟨m',e',g1,_,q1,q2⟩ := h'.1 k _ oQ
  subst e'
  have hle:m' <= m:=by
   rcases q2 with e | ⟨who,y1,y2,y3⟩
   ·omega
   ·rcases p1 who y1 with z | ⟨later,ml,z1,z2,z3⟩
    ·exact absurd z y2
    ·have:=y3 later ml z1 (ih1 later ml (by omega) z2)
     omega
  rcases Int.lt_or_eq_of_le hle with z | z
  ·have:=ih2 k m' (by omega) oQ
   rw [hv] at this
   cases this
   omega
  ·rw [oQ,z]
theorem Qt {ws:List Int} {cm:Option Int} {tv fR:List ((List Int × Int) × V)} (h:Dx ws cm tv) (h':Dx ws cm fR) (k:List Int × Int):Ao tv k = Ao fR k:=by
 cases hv:Ao tv k with
 | some v =>
  obtain ⟨m,e,h1,_⟩ := h.1 k _ hv
  subst e
  exact (Fz m.toNat h h' k m (by omega) hv).symm
 | none =>
  cases oQ:Ao fR k with
  | none=>rfl
  | some v =>
   obtain ⟨m,e,h1,_⟩ := h'.1 k _ oQ
   subst e
   have:=Fz m.toNat h' h k m (by omega) oQ
   rw [hv] at this
   cases this
def Ds (tv:List ((List Int × Int) × V)) (ws ls:List Int) (cm:Option Int) (q:Int) (who:Nat):Bool:=Gh cm q && Ki (told tv (En ws ls cm q who false)) (told tv (En ws ls cm q who true))
def Dp (L:List Int) (i:Nat):List Int:=(List.range i).filterMap fun k=>if L.getD k 0 = 0 then some (k:Int) else none
theorem Eb (L:List Int) (i:Nat):Dp L (i + 1) = Dp L i ++ (if L.getD i 0 = 0 then [(i:Int)] else []):=by
 unfold Dp
 rw [List.range_succ,List.filterMap_append]
 congr 1
 by_cases h:L.getD i 0 = 0
 ·rw [if_pos h,List.filterMap_cons,List.filterMap_nil,if_pos h]
 ·rw [if_neg h,List.filterMap_cons,List.filterMap_nil,if_neg h]
theorem Eh (L:List Int):∀ i,(Dp L i).length <= i
 | 0=>Nat.le_refl _
 | i + 1=>by
  rw [Eb,List.length_append]
  have h:=Eh L i
  split <;> simp <;> omega
theorem R8 {L:List Int} {i:Nat} (hi:i <= L.length):Dp L i = [] ↔ (0:Int) ∉ L.take i:=by
 induction i with
 | zero=>simp [Dp]
 | succ i ih =>
  have e:L[i]? = some (L.getD i 0):=by
   rw [List.getD_eq_getElem?_getD,List.getElem?_eq_getElem (show i < L.length by omega)]
   rfl
  rw [Eb,Zp e,List.append_eq_nil_iff,ih (by omega)]
  by_cases h:L.getD i 0 = 0
  ·rw [if_pos h,h]
   simp
  ·have h':¬ (0 = L.getD i 0):=fun z=>h z.symm
   simp only [if_neg h,List.mem_append,List.mem_singleton,h',or_false,and_true]
theorem Iy {α:Type} {f:α -> PyData} {n:Nat} (h:∀ x,(f x).depth <= n):∀ xs:List α,PyData.depthAll (xs.map f) <= n
 | []=>Nat.zero_le _
 | x :: xs=>Nat.max_le.mpr ⟨h x,Iy h xs⟩
theorem Jz {H:Hp} {a:Addr} {ss:List Str} (e:H a = some (.lst (ss.map V.str))) (hs:∀ s ∈ ss,PyData.strOk s = true):Rp H (.list (ss.map PyData.str)) (.ref a):=by
 have key:∀ {ss:List Str},(∀ s ∈ ss,PyData.strOk s = true) -> cL H (ss.map PyData.str) (ss.map V.str):=by
  intro ss
  induction ss with
  | nil=>intro _; unfold cL; rfl
  | cons s ss ih =>
   intro hs
   rw [List.map_cons,List.map_cons]
   unfold cL
   exact ⟨_,_,rfl,by unfold Rp; exact ⟨rfl,hs s List.mem_cons_self⟩,ih fun x hx=>hs x (List.mem_cons_of_mem _ hx)⟩
 unfold Rp
 exact ⟨a,_,rfl,e,key hs⟩
theorem Kc (ss:List Str):(PyData.list (ss.map PyData.str)).depth <= 60:=by
 have:=Iy (f:=PyData.str) (n:=0) (fun _=>Nat.le_refl _) ss
 show PyData.depthAll (ss.map PyData.str) + 1 <= 60
 omega
def gj (H:Hp) (ws:List Int) (calm:Option Int) (q:Int) (who:Int) (lost:Bool) (C1 C2:Addr) (E:XK):Prop :=
 (¬ (0 <= who /\ who < (ws.length:Int)) /\ ∀ H2,A6 H H2 -> E (.ref C1) none H2) \/ ((0 <= who /\ who < (ws.length:Int)) /\ lost = true /\ ¬ (calm ≠ none /\ q = 0) /\ ∀ H2,A6 H H2 -> E (.ref C2) none H2)
theorem Ef:1 <= sizeLine:=by decide
def Da (x:Addr) (H H':Hp):Prop := ∀ b o,b ≠ x -> H b = some o -> H' b = some o
theorem Da.of {x:Addr} {H H':Hp} (s:A6 H H'):Da x H H':=fun b o _ e=>s b o e
theorem Da.trans {x:Addr} {H H1 H2:Hp} (s:Da x H H1) (t:Da x H1 H2):Da x H H2:=fun b o n e=>t b o n (s b o n e)
theorem Da.ins {x:Addr} {H:Hp} {o:HO}:Da x H (upd H x o):=fun b u n e=>by rw [A8 n]; exact e
theorem Da.tup {x C dx:Addr} {fs:List (Str × V)} {H H':Hp} (s:Da x H H') (hx:H x = some (.ins C dx fs)) {a:Addr} {xs:List V} (h:H a = some (.tup xs)):H' a = some (.tup xs):=s _ _ (Bb h hx HO.noConfusion) h
theorem Da.lst {x C dx:Addr} {fs:List (Str × V)} {H H':Hp} (s:Da x H H') (hx:H x = some (.ins C dx fs)) {a:Addr} {xs:List V} (h:H a = some (.lst xs)):H' a = some (.lst xs):=s _ _ (Bb h hx HO.noConfusion) h
theorem Da.dT {x C dx:Addr} {fs:List (Str × V)} {H H':Hp} (s:Da x H H') (hx:H x = some (.ins C dx fs)) {a:Addr} {xs:List ((List Int × Int) × V)} (h:H a = some (.dT xs)):H' a = some (.dT xs):=s _ _ (Bb h hx HO.noConfusion) h
theorem Aq.but {x C dx:Addr} {fs:List (Str × V)} {H H':Hp} (s:Da x H H') (hx:H x = some (.ins C dx fs)) {a:Addr} {ws:List Int} {cm:Option Int} (h:Aq H a ws cm):Aq H' a ws cm:=by
 obtain ⟨t,h1,h2⟩ := h
 exact ⟨t,s.tup hx h1,s.tup hx h2⟩
theorem Cc.but {x C dx:Addr} {fs:List (Str × V)} {H H':Hp} (s:Da x H H') (hx:H x = some (.ins C dx fs)) {a:Addr} {ls:List Int} {q:Int} (h:Cc H a ls q):Cc H' a ls q:=by
 obtain ⟨t,h1,h2⟩ := h
 exact ⟨t,s.tup hx h1,s.tup hx h2⟩
def Ui (c:Nat):Bool:=decide (48 <= c /\ c <= 57)
theorem b8 (c:Nat):(!(Builtin.Str.occurrences "0123456789" ⟨#[c]⟩ 0 (Str.ofString "0123456789").length 1).isEmpty) = Ui c:=by
 rw [StrLaws.found_one]
 have e:(Str.ofString "0123456789").cps.toList = [48,49,50,51,52,53,54,55,56,57]:=by decide
 rw [e]
 unfold Ui
 rw [Bool.eq_iff_iff,decide_eq_true_iff,decide_eq_true_iff]
 simp only [List.mem_cons,List.not_mem_nil,or_false]
 omega
theorem M3 {α:Type} {f:Nat -> α} {xs:List Nat} {i c:Nat} (h:xs[i]? = some c):(xs.take (i + 1)).map f = (xs.take i).map f ++ [f c]:=by
 rw [List.take_add_one,h,List.map_append]
 rfl
theorem fk {n:Nat} (h:n < 100000):n < sizeLine:=Nat.lt_of_lt_of_le h (by decide)
theorem Yv {xs:List Nat} (h:xs ≠ []):∃ c,xs[0]? = some c /\ xs.head? = some c:=by
 cases xs with
 | nil=>exact absurd rfl h
 | cons c r=>exact ⟨c,rfl,rfl⟩
theorem Zr {v:V} {xs:List V}:G4 (v :: xs) 0 = some v:=Jr (show (v :: xs)[0]? = some v from rfl)
def Cl:Option Int -> List Str
 | none=>[]
 | some c=>[Str.ofString "calm",Bq c]
def F9 (w:Str) (n:Int):Bool:=if Pe (.str w) [.str "best",.str "rank"] = true then decide (V.int n = V.int 0) else if Pe (.str w) [.str "call",.str "lost",.str "answer",.str "join",.str "leave",.str "turn"] = true then decide (V.int n = V.int 1) else (Pe (.str w) [.str "hall",.str "wheel"] && decide (n > 0))
structure Fb (x hd:Str) (ns:List Int) (cm:Option Int):Prop where
 cut:Txt.split x " " = hd :: (ns.map Bq ++ Cl cm)
 len:x.length <= 100000
 big:∀ n ∈ ns,0 <= n /\ n < 10 ^ 100
 calm:∀ c,cm = some c -> (0 <= c /\ c < 10 ^ 100) /\ hd = Str.ofString "hall"
 tak:F9 hd (ns.length:Int) = true
 GR:ns.length <= 300
 ok:PyData.strOk hd = true
def Dq (ws:List Str) (lo hi:Option Int):List Str:=(ws.drop (HT.gN ws.length 0 lo)).take (HT.gN ws.length ws.length hi - HT.gN ws.length 0 lo)
theorem Dv (ws:List Str) (lo hi:Option Int):Pp (ws.map V.str) lo hi = (Dq ws lo hi).map V.str:=by
 unfold Pp Dq
 rw [List.length_map,List.map_take,List.map_drop]
theorem Pt (w:Str) (ws:List Str):Dq (w :: ws) (some 1) none = ws:=by
 unfold Dq
 rw [HT.iQ,show HT.gN (w :: ws).length 0 (some 1) = min 1 (w :: ws).length from HT.sQ _ 0 1,List.length_cons,show min 1 (ws.length + 1) = 1 by omega]
 simp
theorem Ps (ws:List Str) (a b:Str):Dq (ws ++ [a,b]) (some (-2)) (some (-1)) = [a] /\ Dq (ws ++ [a,b]) (some (-1)) none = [b] /\ Dq (ws ++ [a,b]) none (some (-2)) = ws:=by
 have hl:(ws ++ [a,b]).length = ws.length + 2:=by simp
 have e2:∀ d,HT.gN (ws ++ [a,b]).length d (some (-2)) = ws.length:=fun d=>by
  unfold HT.gN
  simp only [show (-2:Int) < 0 by decide,if_true]
  omega
 have e1:∀ d,HT.gN (ws ++ [a,b]).length d (some (-1)) = ws.length + 1:=fun d=>by
  unfold HT.gN
  simp only [show (-1:Int) < 0 by decide,if_true]
  omega
 refine ⟨?_,?_,?_⟩
 ·unfold Dq
  rw [e2,e1,List.drop_left,show ws.length + 1 - ws.length = 1 by omega]
  rfl
 ·unfold Dq
  rw [e1,HT.iQ,hl,show ws ++ [a,b] = (ws ++ [a]) ++ [b] by simp,List.drop_left' (by simp),show ws.length + 2 - (ws.length + 1) = 1 by omega]
  rfl
 ·unfold Dq
  rw [HT.iQ,e2,List.drop_zero,Nat.sub_zero,List.take_left]
theorem Ue {ws:List Str} {a:Str} (h:a ∉ ws):Dq ws (some (-2)) (some (-1)) ≠ [a]:=fun e=>by
 have:a ∈ Dq ws (some (-2)) (some (-1)):=by rw [e]; simp
 exact h (List.mem_of_mem_drop (List.mem_of_mem_take this))
theorem V0 {n:Int} {x:Str} (h:0 <= n /\ n < 10 ^ 100) (hx:Dy x = false):Bq n ≠ x:=fun e=>by
 have:=(Db h.1 h.2).is
 rw [e,hx] at this
 cases this
theorem Dw {n:Int} (h:0 <= n /\ n < 10 ^ 100):PyData.strOk (Bq n) = true:=by
 have hs:=(Db h.1 h.2).sgn
 unfold PyData.strOk
 rw [<- Array.all_toList,List.all_eq_true]
 intro c hc
 have:=hs c hc
 simp
 omega
theorem Cp {n:Int} (h:0 <= n /\ n < 10 ^ 100):n.natAbs.log2 < 1920:=by
 by_cases z:n.natAbs = 0
 ·rw [z]
  decide
 ·rw [Nat.log2_lt z]
  have h1:n.natAbs < 10 ^ 100:=by
   have e:((10:Int) ^ 100) = ((10 ^ 100:Nat):Int):=by norm_cast
   omega
  exact Nat.lt_trans h1 (by decide +kernel)
theorem Q4:∀ xs ys:List Str,PyData.eqv (.list (xs.map PyData.str)) (.list (ys.map PyData.str)) = decide (xs = ys):=by
 have key:∀ xs ys:List Str,PyData.eqvAll (xs.map PyData.str) (ys.map PyData.str) = decide (xs = ys):=by
  intro xs
  induction xs with
  | nil=>intro ys; cases ys <;> simp [PyData.eqvAll]
  | cons x xs ih =>
   intro ys
   cases ys with
   | nil=>simp [PyData.eqvAll]
   | cons y ys =>
    show (PyData.eqv (.str x) (.str y) && PyData.eqvAll (xs.map PyData.str) (ys.map PyData.str)) = _
    rw [ih ys,Bool.eq_iff_iff,Bool.and_eq_true]
    simp [PyData.eqv]
 exact key
def Iv (lost:Bool):Str:=if lost = true then Str.ofString "lost" else Str.ofString "call"
theorem K1 (a b:Str):(a ++ b).length = a.length + b.length:=by
 show (a ++ b).cps.size = _
 rw [Str.cps_append,Array.size_append]
 rfl
def Qk (ns:List Int):Str:=Txt.join " " (ns.map Bq)
theorem Ql {ns:List Int} (h:∀ n ∈ ns,0 <= n /\ n < 10 ^ 100) (hl:ns.length <= 300):(Qk ns).length <= 40000:=by
 unfold Qk
 rw [show Txt.join (Str.ofString " ") (ns.map Bq) = Str.join (Str.ofString " ") (ns.map Bq) from StrLaws.glued_eq_join _ _]
 have h1:=StrLaws.join_length_le (Str.ofString " ") (ns.map Bq)
 have h2:=sumLen_le_of_bound (fun z:Str=>z) 100 (ns.map Bq) (fun z hz=>by
  obtain ⟨n,hn,rfl⟩ := List.mem_map.mp hz
  exact (Db (h n hn).1 (h n hn).2).len)
 rw [List.map_id',List.length_map] at h2
 rw [List.length_map,show (Str.ofString " ").length = 1 from rfl] at h1
 omega
def Cg (h s t w:V):List (Str × V):=[("hall",h),("standing",s),("table",t),("wheel",w)]
def Ba (C:Addr) (H:Hp) (x dx:Addr) (ws:List Int) (cm:Option Int) (ls:List Int) (q:Int) (tv:List ((List Int × Int) × V)) (w:V):Prop :=
 ∃ a b TB,H x = some (.ins C dx (Cg (.ref a) (.ref b) (.ref TB) w)) /\ Aq H a ws cm /\ Cc H b ls q /\ H TB = some (.dT tv)
theorem Ba.same {C:Addr} {H H':Hp} {x dx:Addr} {ws:List Int} {cm:Option Int} {ls:List Int} {q:Int} {tv:List ((List Int × Int) × V)} {w:V} (s:A6 H H') (h:Ba C H x dx ws cm ls q tv w):Ba C H' x dx ws cm ls q tv w:=by
 obtain ⟨a,b,TB,h1,h2,h3,h4⟩ := h
 exact ⟨a,b,TB,s _ _ h1,h2.same s,h3.same s,s _ _ h4⟩
theorem L7 (h s t w v:V):Fo "standing" v (Cg h s t w) = Cg h v t w:=rfl
def D3 (ws:List Int) (cm:Option Int):Prop:=(∀ w ∈ ws,1 <= w /\ w <= 3000) /\ (∀ c,cm = some c -> 1 <= c /\ c <= 3000) /\ 0 < ws.length /\ ws.length <= 8 /\ B7 (qv cm) ws <= 3000
def Ct (ws:List Int) (cm:Option Int) (tv:List ((List Int × Int) × V)):Prop:=Dx ws cm tv /\ (tv.map (·.1)).Nodup /\ tv.length <= 60000
theorem Xl {ws:List Int} {cm:Option Int} {tv:List ((List Int × Int) × V)} {k:List Int × Int} {m:Int} (h:Ct ws cm tv) (hv:Ao tv k = some (.int m)):1 <= m /\ m <= (tv.length:Int):=by
 obtain ⟨hr,hn,hl⟩ := h
 obtain ⟨m0,e0,h1,_⟩ := hr.1 _ _ hv
 cases e0
 have ho:kr tv m:=⟨(k,.int m),B8 hv,rfl⟩
 refine ⟨h1,?_⟩
 have nd:(List.range m.toNat).Nodup:=List.nodup_range
 have sub:List.range m.toNat ⊆ tv.map fun kv=>match kv.2 with | .int i=>(i - 1).toNat | _=>0:=fun i hi=>by
  have sm:=List.mem_range.mp hi
  obtain ⟨kv,dD,e⟩ := Qm hr hn (m.toNat - (i + 1)) m ho (by omega)
  refine List.mem_map.mpr ⟨kv,dD,?_⟩
  rw [e]
  show (m - ((m.toNat - (i + 1):Nat):Int) - 1).toNat = i
  omega
 have:=List.Nodup.length_le_of_subset nd sub
 rw [List.length_range,List.length_map] at this
 omega
theorem Fy {ws:List Int} {cm:Option Int} {tv:List ((List Int × Int) × V)} {k:List Int × Int} {m:Int} (h:Ct ws cm tv) (hv:Ao tv k = some (.int m)):1 <= m /\ m <= 60000:=by
 have h1:=Xl h hv
 have h2:=h.2.2
 omega
def G8 (tv:List ((List Int × Int) × V)) (k:List Int × Int):Str:=match Ao tv k with
 | some (.int m)=>Str.ofString "broken within " ++ Bq m
 | _=>Str.ofString "kept"
def G9 (ws ls:List Int) (cm:Option Int) (q:Int) (who:Nat) (lost:Bool):List Int × Int:=if (0:Int) ∈ Be ws ls who lost then (ws,0) else (Be ws ls who lost,Cv cm q lost)
def Qy (ws ls:List Int) (cm:Option Int) (q:Int) (who:Nat) (lost:Bool):Str:=if (0:Int) ∈ Be ws ls who lost then Str.ofString "broken " ++ Qk (Dp (Be ws ls who lost) ws.length) else Str.ofString "left " ++ Qk (Be ws ls who lost) ++ Str.ofString " quiet " ++ Bq (Cv cm q lost)
theorem L8 {x hd:Str} {ns:List Int} {cm:Option Int} (h:x.cps.toList = jn ((hd :: (ns.map Bq ++ Cl cm)).map fun x=>x.cps.toList)) (h0:32 ∉ hd.cps.toList) (hl:x.length <= 100000) (hb:∀ n ∈ ns,0 <= n /\ n < 10 ^ 100) (hc:∀ c,cm = some c -> (0 <= c /\ c < 10 ^ 100) /\ hd = Str.ofString "hall") (ht:F9 hd (ns.length:Int) = true) (hf:ns.length <= 300) (hs:PyData.strOk hd = true):Fb x hd ns cm:=by
 refine ⟨Ja (by simp) (fun w hw=>?_) h,hl,hb,hc,ht,hf,hs⟩
 rcases List.mem_cons.mp hw with z | z
 ·rw [z]
  exact h0
 ·rcases List.mem_append.mp z with z | z
  ·obtain ⟨n,hn,rfl⟩ := List.mem_map.mp z
   exact (Db (hb n hn).1 (hb n hn).2).fre
  ·cases cm with
   | none=>cases z
   | some c =>
    rcases List.mem_cons.mp z with z | z
    ·rw [z]
     decide
    ·rw [List.mem_singleton.mp z]
     exact (Db (hc c rfl).1.1 (hc c rfl).1.2).fre
theorem Lv {hd:Str} {n:Int} (h1:Pe (.str hd) [.str "best",.str "rank"] = false) (h2:Pe (.str hd) [.str "call",.str "lost",.str "answer",.str "join",.str "leave",.str "turn"] = false) (h3:Pe (.str hd) [.str "hall",.str "wheel"] = true) (h4:0 < n):F9 hd n = true:=by
 unfold F9
 rw [h1,h2,h3,if_neg Bool.false_ne_true,if_neg Bool.false_ne_true,decide_eq_true (show n > 0 from h4)]
 rfl
theorem U1 (a b:Str):(a ++ b).cps.toList = a.cps.toList ++ b.cps.toList:=by rw [Str.cps_append,Array.toList_append]
theorem Ot {x hd:Str} {n:Int} (hn:0 <= n /\ n < 10 ^ 100) (h:x.cps.toList = hd.cps.toList ++ [32]) (h0:32 ∉ hd.cps.toList) (hl:x.length <= 100) (ht:F9 hd 1 = true) (hs:PyData.strOk hd = true):Fb (x ++ Bq n) hd [n] none:=by
 have RE:=(Db hn.1 hn.2).len
 refine L8 ?_ h0 (by rw [K1]; omega) (fun m hm=>by rw [List.mem_singleton.mp hm]; exact hn) (fun c hc=>by cases hc) ht (by show 1 <= 300; decide) hs
 rw [U1,h]
 show _ = hd.cps.toList ++ 32 :: (Bq n).cps.toList
 simp
theorem Xo {n:Int} (hn:0 <= n /\ n < 10 ^ 100) (lost:Bool):Fb ((if lost = true then Str.ofString "lost " else Str.ofString "call ") ++ Bq n) (Iv lost) [n] none:=by
 cases lost with
 | true=>exact Ot hn (by decide) (by decide) (by decide) (by decide) (by decide +kernel)
 | false=>exact Ot hn (by decide) (by decide) (by decide) (by decide) (by decide +kernel)
theorem Xm:Fb (Str.ofString "best") (Str.ofString "best") [] none :=
 L8 (by decide) (by decide) (by decide) (fun n hn=>by cases hn) (fun c hc=>by cases hc) (by decide) (by decide) (by decide +kernel)
def a9 (ws:List Int) (cm:Option Int):Prop:=ws.length < 1 \/ 8 < ws.length \/ (∃ x ∈ ws,x < 1) \/ ∃ c,cm = some c /\ c < 1
def T9 (x:Str):Prop:=x.length <= 100000 /\ ∃ (hd:Str) (ws:List Str),Txt.split x " " = hd :: ws /\ (hd ≠ Str.ofString "hall" \/ Dq (hd :: ws) (some (-2)) (some (-1)) ≠ [Str.ofString "calm"]) /\ (∀ w ∈ hd :: ws,PyData.strOk w = true) /\ (∀ w ∈ ws,w.length <= 100000) /\ ws.length <= 300 /\
 ((∃ w ∈ ws,Dy w = false) \/ ∃ ns:List Int,ws = ns.map Bq /\ (∀ n ∈ ns,0 <= n /\ n < 10 ^ 100) /\ F9 hd (ns.length:Int) = false)
def E5 (tv:List ((List Int × Int) × V)) (k:List Int × Int):Str:=match Ao tv k with
 | some (.int m)=>Bq m
 | _=>Str.ofString "safe"
theorem Ym:intBits (618033988749894848204586834365638117720309179805762862137:Int) <= 200:=by decide +kernel
theorem li:(10:Int) ^ (60:Int).toNat < 2 ^ 200:=by decide +kernel
theorem X1 (ws:List Int) (w:Int):ws.map V.int ++ [V.int w] = (ws ++ [w]).map V.int:=by rw [List.map_append]; rfl
theorem Wx {α:Type} {ls:List α} {x:α} {i:Nat} (h:ls.length = i):(ls ++ [x]).length = i + 1:=by
 rw [List.length_append,h]
 rfl
theorem U0 {P:Int -> Prop} {ls:List Int} {x:Int} (h:∀ y ∈ ls,P y) (hx:P x):∀ y ∈ ls ++ [x],P y:=fun y hy=>by
 rcases List.mem_append.mp hy with z | z
 ·exact h y z
 ·cases List.mem_singleton.mp z
  exact hx
theorem Ft {ws:List Int} {cm:Option Int} (h:D3 ws cm):(ws,0) ∈ Bc ws (qv cm):=by
 refine Qv rfl (fun i hi=>⟨(h.1 _ (Ml hi)).1,Int.le_refl _⟩) (Int.le_refl _) ?_
 show 0 < qv cm
 cases cm with
 | none=>decide
 | some c =>
  have:=h.2.1 c rfl
  show 0 < c + 1
  omega
theorem U2 (ws:List Int) (w:Int):G4 (ws.map V.int ++ [V.int w]) (-1) = some (.int w):=Vx _ _
theorem Ry (ws:List Int) (a w:Int):B7 a (ws ++ [w]) = B7 a ws * w:=by
 induction ws generalizing a with
 | nil=>rfl
 | cons x ws ih=>exact ih (a * x)
theorem Ln {ws:List Int} {a:Int} (h:∀ w ∈ ws,1 <= w) (ha:1 <= a):1 <= B7 a ws:=Int.le_trans ha (Fw ws a (by omega) h)
theorem Vc {hd:Str} {ns:List Int} {cm:Option Int} (aS:D3 ns cm) (e:hd = Str.ofString "hall"):Fb (Txt.join (Str.ofString " ") (hd :: (ns.map Bq ++ Cl cm))) hd ns cm:=by
 subst e
 have hb:∀ n ∈ ns,0 <= n /\ n < 10 ^ 100:=fun n hn=>by have:=aS.1 n hn; omega
 have h8:=aS.2.2.2.1
 have h0:=aS.2.2.1
 have hc:∀ c,cm = some c -> (0 <= c /\ c < 10 ^ 100) /\ Str.ofString "hall" = Str.ofString "hall" := fun c h=>⟨by have:=aS.2.1 c h; omega,rfl⟩
 have ej:Txt.join (Str.ofString " ") (Str.ofString "hall" :: (ns.map Bq ++ Cl cm)) = Str.join (Str.ofString " ") (Str.ofString "hall" :: (ns.map Bq ++ Cl cm)):=StrLaws.glued_eq_join _ _
 rw [ej]
 refine L8 (O8 _) (by decide) ?_ hb hc (Lv (by decide) (by decide) (by decide) (by omega)) (by omega) (by decide +kernel)
 have h1:=StrLaws.join_length_le (Str.ofString " ") (Str.ofString "hall" :: (ns.map Bq ++ Cl cm))
 have h2:=sumLen_le_of_bound (fun z:Str=>z) 100 (Str.ofString "hall" :: (ns.map Bq ++ Cl cm)) (fun z hz=>by
  rcases List.mem_cons.mp hz with y | y
  ·rw [y]
   decide
  ·rcases List.mem_append.mp y with y | y
   ·obtain ⟨n,hn,rfl⟩ := List.mem_map.mp y
    exact (Db (hb n hn).1 (hb n hn).2).len
   ·cases cm with
    | none=>cases y
    | some c =>
     rcases List.mem_cons.mp y with y | y
     ·rw [y]
      decide
     ·rw [List.mem_singleton.mp y]
      exact (Db (hc c rfl).1.1 (hc c rfl).1.2).len)
 rw [List.map_id'] at h2
 have h3:(Str.ofString "hall" :: (ns.map Bq ++ Cl cm)).length <= 11:=by
  rw [List.length_cons,List.length_append,List.length_map]
  cases cm with
  | none=>show ns.length + 0 + 1 <= 11; omega
  | some c=>show ns.length + 2 + 1 <= 11; omega
 rw [show (Str.ofString " ").length = 1 from rfl] at h1
 omega
theorem Ba.but {C:Addr} {H H':Hp} {x y dx dy:Addr} {fs:List (Str × V)} {ws:List Int} {cm:Option Int} {ls:List Int} {q:Int} {tv:List ((List Int × Int) × V)} {w:V} (s:Da x H H') (hx:H x = some (.ins C dx fs)) (ne:y ≠ x) (h:Ba C H y dy ws cm ls q tv w):Ba C H' y dy ws cm ls q tv w:=by
 obtain ⟨a,b,TB,h1,h2,h3,h4⟩ := h
 exact ⟨a,b,TB,s _ _ ne h1,h2.but s hx,h3.but s hx,s.dT hx h4⟩
def tw {α:Type} (a b:α) (i:Nat):α:=if i = 0 then a else b
theorem Dd {a b:V} {i:Nat} (h:i < 2):G4 [a,b] (i:Int) = some (tw a b i):=by
 have:i = 0 \/ i = 1:=by omega
 rcases this with rfl | rfl <;> rfl
theorem Ti {a b u:V} {i:Nat} (h:[a,b][i]? = some u):i < 2 /\ u = tw a b i:=by
 have hi:=(List.getElem?_eq_some_iff.mp h).1
 have hi:i < 2:=hi
 have:i = 0 \/ i = 1:=by omega
 rcases this with rfl | rfl
 ·cases h
  exact ⟨hi,rfl⟩
 ·cases h
  exact ⟨hi,rfl⟩
theorem K0 {a b u:V} {i:Nat} (h:i < 2):([a,b]:List V).set i u = [if 0 = i then u else a,if 1 = i then u else b]:=by
 have:i = 0 \/ i = 1:=by omega
 rcases this with rfl | rfl <;> rfl
theorem T4 (a b:Addr) (i:Nat):tw (V.ref a) (V.ref b) i = .ref (tw a b i):=by
 unfold tw
 split <;> rfl
theorem Z2 {α:Type} {xs:List α} (h:xs.length = 2):∃ a b,xs = [a,b]:=by
 match xs,h with
 | [a,b],_=>exact ⟨a,b,rfl⟩
theorem Tw {a b:Addr} (h:a ≠ b) {i j:Nat} (hi:i < 2) (hj:j < 2) (IT:i ≠ j):tw a b i ≠ tw a b j:=by
 have h1:i = 0 \/ i = 1:=by omega
 have h2:j = 0 \/ j = 1:=by omega
 rcases h1 with rfl | rfl <;> rcases h2 with rfl | rfl
 ·exact absurd rfl IT
 ·exact h
 ·exact Ne.symm h
 ·exact absurd rfl IT
theorem Z4 {a b:Int}:(if b < a then b else a) <= a /\ (if b < a then b else a) <= b /\ ((if b < a then b else a) = a \/ (if b < a then b else a) = b):=by
 split <;> omega
theorem Qb:∀ {ls:List Int},0 < ls.length -> ∃ j,j < ls.length /\ ∀ y ∈ ls,ls.getD j 0 <= y
 | [],h=>by cases h
 | [x],_=>⟨0,by simp,fun y hy=>by rw [List.mem_singleton.mp hy]; exact Int.le_refl _⟩
 | x :: z :: r,_=>by
  obtain ⟨j,hj,hm⟩ := Qb (ls:=z :: r) (by simp)
  by_cases c:x <= (z :: r).getD j 0
  ·refine ⟨0,by simp,fun y hy=>?_⟩
   show x <= y
   rcases List.mem_cons.mp hy with e | e
   ·rw [e]
    exact Int.le_refl _
   ·have:=hm y e
    omega
  ·refine ⟨j + 1,by simpa using hj,fun y hy=>?_⟩
   show (z :: r).getD j 0 <= y
   rcases List.mem_cons.mp hy with e | e
   ·rw [e]
    omega
   ·exact hm y e
def gw (row k:Str):Prop:=(T9 row /\ k = Str.ofString "row") \/ ∃ (ns:List Int) (cm:Option Int),Fb row (Str.ofString "hall") ns cm /\ ((a9 ns cm /\ k = Str.ofString "hall") \/ ((0 < ns.length /\ ns.length <= 8 /\ (∀ x ∈ ns,1 <= x /\ intBits x <= 256) /\ (∀ c,cm = some c -> 1 <= c) /\ intBits (qv cm) <= 256 /\ 3000 < B7 (qv cm) ns) /\ k = Str.ofString "many"))
def Vb (i:Nat):Str:=[Str.ofString "hall 0",Str.ofString "hall 2 3 calm 0",Str.ofString "hall 1 1 1 1 1 1 1 1 1",Str.ofString "hall 9 9 9 9",Str.ofString "hall 2 2999",Str.ofString "hall 1500 calm 2",Str.ofString "best 1",Str.ofString "call",Str.ofString "hall 3 calm",Str.ofString "rank "].getD i (Str.ofString "")
def Oq (i:Nat):Str:=[Str.ofString "hall",Str.ofString "hall",Str.ofString "hall",Str.ofString "many",Str.ofString "many",Str.ofString "many",Str.ofString "row",Str.ofString "row",Str.ofString "row",Str.ofString "row"].getD i (Str.ofString "")
theorem Mv {x:Str} {ns:List Int} {cm:Option Int} (h:x.cps.toList = jn ((Str.ofString "hall" :: (ns.map Bq ++ Cl cm)).map fun x=>x.cps.toList)) (hl:x.length <= 100000) (hb:∀ n ∈ ns,0 <= n /\ n < 10000) (hc:∀ c,cm = some c -> 0 <= c /\ c < 10000) (h0:0 < ns.length) (h1:ns.length <= 300):Fb x (Str.ofString "hall") ns cm :=
 L8 h (by decide) hl (fun n hn=>by have:=hb n hn; omega) (fun c e=>⟨by have:=hc c e; omega,rfl⟩) (Lv (by decide) (by decide) (by decide) (by omega)) h1 (by decide +kernel)
theorem Os {x hd:Str} {ws:List Str} (h:x.cps.toList = jn ((hd :: ws).map fun x=>x.cps.toList)) (h0:∀ w ∈ hd :: ws,32 ∉ w.cps.toList) (hl:x.length <= 100000) (hc:hd ≠ Str.ofString "hall" \/ Dq (hd :: ws) (some (-2)) (some (-1)) ≠ [Str.ofString "calm"]) (hs:∀ w ∈ hd :: ws,PyData.strOk w = true) (hw:∀ w ∈ ws,w.length <= 100000) (hf:ws.length <= 300) (hy:(∃ w ∈ ws,Dy w = false) \/ ∃ ns:List Int,ws = ns.map Bq /\ (∀ n ∈ ns,0 <= n /\ n < 10 ^ 100) /\ F9 hd (ns.length:Int) = false):T9 x :=
 ⟨hl,hd,ws,Ja (by simp) h0 h,hc,hs,hw,hf,hy⟩
theorem Zj:∀ i,i < 10 -> gw (Vb i) (Oq i):=fun i hi=>by
 have:i = 0 \/ i = 1 \/ i = 2 \/ i = 3 \/ i = 4 \/ i = 5 \/ i = 6 \/ i = 7 \/ i = 8 \/ i = 9:=by omega
 rcases this with rfl | rfl | rfl | rfl | rfl | rfl | rfl | rfl | rfl | rfl
 ·exact .inr ⟨[0],none,Mv (by decide +kernel) (by decide +kernel) (by decide) (by simp) (by decide) (by decide),.inl ⟨.inr (.inr (.inl ⟨0,by simp,by decide⟩)),rfl⟩⟩
 ·exact .inr ⟨[2,3],some 0,Mv (by decide +kernel) (by decide +kernel) (by decide) (fun c e=>by cases e; decide) (by decide) (by decide),.inl ⟨.inr (.inr (.inr ⟨0,rfl,by decide⟩)),rfl⟩⟩
 ·exact .inr ⟨[1,1,1,1,1,1,1,1,1],none,Mv (by decide +kernel) (by decide +kernel) (by decide) (by simp) (by decide) (by decide),.inl ⟨.inr (.inl (by decide)),rfl⟩⟩
 ·exact .inr ⟨[9,9,9,9],none,Mv (by decide +kernel) (by decide +kernel) (by decide) (by simp) (by decide) (by decide),.inr ⟨⟨by decide,by decide,by decide +kernel,by simp,by decide +kernel,by decide⟩,rfl⟩⟩
 ·exact .inr ⟨[2,2999],none,Mv (by decide +kernel) (by decide +kernel) (by decide) (by simp) (by decide) (by decide),.inr ⟨⟨by decide,by decide,by decide +kernel,by simp,by decide +kernel,by decide⟩,rfl⟩⟩
 ·exact .inr ⟨[1500],some 2,Mv (by decide +kernel) (by decide +kernel) (by decide) (fun c e=>by cases e; decide) (by decide) (by decide),.inr ⟨⟨by decide,by decide,by decide +kernel,(fun c e=>by cases e; decide),by decide +kernel,by decide⟩,rfl⟩⟩
 ·exact .inl ⟨Os (hd:=Str.ofString "best") (ws:=[Str.ofString "1"]) (by decide +kernel) (by decide +kernel) (by decide +kernel) (.inl (by decide)) (by decide +kernel) (by decide +kernel) (by decide) (.inr ⟨[1],by decide +kernel,by simp,by decide⟩),rfl⟩
 ·exact .inl ⟨Os (hd:=Str.ofString "call") (ws:=[]) (by decide +kernel) (by decide +kernel) (by decide +kernel) (.inl (by decide)) (by decide +kernel) (by simp) (by decide) (.inr ⟨[],rfl,by simp,by decide⟩),rfl⟩
 ·exact .inl ⟨Os (hd:=Str.ofString "hall") (ws:=[Str.ofString "3",Str.ofString "calm"]) (by decide +kernel) (by decide +kernel) (by decide +kernel) (.inr (by decide)) (by decide +kernel) (by decide +kernel) (by decide) (.inl ⟨Str.ofString "calm",by simp,by decide⟩),rfl⟩
 ·exact .inl ⟨Os (hd:=Str.ofString "rank") (ws:=[Str.ofString ""]) (by decide +kernel) (by decide +kernel) (by decide +kernel) (.inl (by decide)) (by decide +kernel) (by decide +kernel) (by decide) (.inl ⟨Str.ofString "",by simp,by decide⟩),rfl⟩
theorem dz {i:Nat} (h:i < 10):G4 ([.str "hall 0",.str "hall 2 3 calm 0",.str "hall 1 1 1 1 1 1 1 1 1",.str "hall 9 9 9 9",.str "hall 2 2999",.str "hall 1500 calm 2",.str "best 1",.str "call",.str "hall 3 calm",.str "rank "]:List V) (i:Int) = some (.str (Vb i)) /\ G4 ([.str "hall",.str "hall",.str "hall",.str "many",.str "many",.str "many",.str "row",.str "row",.str "row",.str "row"]:List V) (i:Int) = some (.str (Oq i)) /\ PyData.strOk (Oq i) = true:=by
 have:i = 0 \/ i = 1 \/ i = 2 \/ i = 3 \/ i = 4 \/ i = 5 \/ i = 6 \/ i = 7 \/ i = 8 \/ i = 9:=by omega
 rcases this with rfl | rfl | rfl | rfl | rfl | rfl | rfl | rfl | rfl | rfl <;> exact ⟨rfl,rfl,by decide +kernel⟩
theorem Fq {H:Hp} {t:Addr} {x y:Str} (h:H t = some (.tup [.str x,.str y])) (hx:PyData.strOk x = true) (hy:PyData.strOk y = true):Rp H (.tuple [.str x,.str y]) (.ref t):=by
 unfold Rp
 refine ⟨t,_,rfl,h,?_⟩
 unfold cL
 refine ⟨_,_,rfl,by unfold Rp; exact ⟨rfl,hx⟩,?_⟩
 unfold cL
 refine ⟨_,_,rfl,by unfold Rp; exact ⟨rfl,hy⟩,?_⟩
 unfold cL
 rfl
theorem Jw {x y:Str}:PyData.eqv (.tuple [.str x,.str y]) (.tuple [.str x,.str y]) = true:=by
 simp [PyData.eqv,PyData.eqvAll]
theorem P9 {tv dM:List ((List Int × Int) × V)} (h:∀ k,Ao tv k = Ao dM k) (o:Option (List Int × Int)):told tv o = told dM o:=by
 cases o with
 | none=>rfl
 | some k =>
  show Qx (Ao tv k) = Qx (Ao dM k)
  rw [h]
theorem ge {tv dM:List ((List Int × Int) × V)} (h:∀ k,Ao tv k = Ao dM k) (ws ls:List Int) (cm:Option Int) (q:Int) (i:Nat):Pd tv ws ls cm q i = Pd dM ws ls cm q i:=by
 have e:told tv = told dM:=funext (P9 h)
 unfold Pd
 rw [e]
theorem Yg {tv dM:List ((List Int × Int) × V)} (h:∀ k,Ao tv k = Ao dM k) (ws ls:List Int) (cm:Option Int) (q:Int) (i:Nat):Ds tv ws ls cm q i = Ds dM ws ls cm q i:=by
 unfold Ds
 rw [P9 h,P9 h]
theorem Xn:Fb (Str.ofString "rank") (Str.ofString "rank") [] none :=
 L8 (by decide) (by decide) (by decide) (fun n hn=>by cases hn) (fun c hc=>by cases hc) (by decide) (by decide) (by decide +kernel)
theorem Ek {H:Hp} {x:Str} (hx:PyData.strOk x = true):Rp H (.str x) (.str x):=by
 unfold Rp
 exact ⟨rfl,hx⟩
theorem Gp (x:Str):PyData.eqv (.str x) (.str x) = true:=by simp [PyData.eqv]
theorem X7 {ws:List Int} {cm:Option Int} {tv:List ((List Int × Int) × V)} {k:List Int × Int} (h:Ct ws cm tv):PyData.strOk (E5 tv k) = true:=by
 unfold E5
 cases hv:Ao tv k with
 | none=>decide +kernel
 | some v =>
  obtain ⟨m,rfl,_⟩ := h.1.1 _ _ hv
  have:=Fy h hv
  exact Dw (by omega)
def Jd (C:Addr) (H:Hp) (x dx:Addr) (hv tb sv:V):Prop := ∃ (p TB b:Addr) (ws ls:List Int) (cm:Option Int) (q:Int) (tv dM:List ((List Int × Int) × V)),hv = .ref p /\ tb = .ref TB /\ sv = .ref b /\ Ba C H x dx ws cm ls q tv .cZ /\ Aq H p ws cm /\ Cc H b ls q /\ H TB = some (.dT dM) /\ Ct ws cm tv /\ Ct ws cm dM /\ D3 ws cm /\ (ls,q) ∈ Bc ws (qv cm)
theorem Jd.same {C:Addr} {H H':Hp} {x dx:Addr} {hv tb sv:V} (s:A6 H H') (h:Jd C H x dx hv tb sv):Jd C H' x dx hv tb sv:=by
 obtain ⟨p,TB,b,ws,ls,cm,q,tv,dM,e1,e2,e3,hD,ha,hb,hT,r⟩ := h
 exact ⟨p,TB,b,ws,ls,cm,q,tv,dM,e1,e2,e3,hD.same s,ha.same s,hb.same s,s _ _ hT,r⟩
theorem Jd.but {C:Addr} {H H':Hp} {x y dx dy:Addr} {fs:List (Str × V)} {hv tb sv:V} (s:Da x H H') (hx:H x = some (.ins C dx fs)) (ne:y ≠ x) (h:Jd C H y dy hv tb sv):Jd C H' y dy hv tb sv:=by
 obtain ⟨p,TB,b,ws,ls,cm,q,tv,dM,e1,e2,e3,hD,ha,hb,hT,r⟩ := h
 exact ⟨p,TB,b,ws,ls,cm,q,tv,dM,e1,e2,e3,hD.but s hx ne,ha.but s hx,hb.but s hx,s.dT hx hT,r⟩
theorem Q6 {ws:List Int} {cm:Option Int} {tv dM:List ((List Int × Int) × V)} (h:Ct ws cm tv) (h1:Ct ws cm dM) (k:List Int × Int):G8 tv k = G8 dM k:=by
 unfold G8
 rw [Qt h.1 h1.1]
theorem Gz {ws:List Int} {cm:Option Int} {tv:List ((List Int × Int) × V)} {k:List Int × Int} (h:Ct ws cm tv):PyData.strOk (G8 tv k) = true:=by
 unfold G8
 cases hv:Ao tv k with
 | none=>decide +kernel
 | some v =>
  obtain ⟨m,rfl,_⟩ := h.1.1 _ _ hv
  have:=Fy h hv
  exact Vn (by decide +kernel) (Dw (by omega))
theorem D3.rk {ws:List Int} {cm:Option Int} (aS:D3 ws cm):(∀ w ∈ ws,1 <= w) /\ 1 <= qv cm /\ (∀ w ∈ ws,intBits w <= 256) /\ intBits (qv cm) <= 256:=by
 have GS:1 <= qv cm /\ qv cm <= 3001:=by
  cases cm with
  | none=>exact ⟨by decide,by decide⟩
  | some c =>
   have:=aS.2.1 c rfl
   show 1 <= c + 1 /\ c + 1 <= 3001
   omega
 exact ⟨fun w hw=>(aS.1 w hw).1,GS.1,(fun w hw=>Nat.le_trans (Jt (n:=12) (by have:=aS.1 w hw; omega)) (by decide)),Nat.le_trans (Jt (n:=12) (by omega)) (by decide)⟩
def Jp (H H':Hp):Prop := ∀ a o,H a = some o -> (∀ xs,o ≠ .lst xs) -> H' a = some o
theorem Jp.of {H H':Hp} (s:A6 H H'):Jp H H':=fun a o e _=>s a o e
theorem Jp.trans {H H1 H2:Hp} (s:Jp H H1) (t:Jp H1 H2):Jp H H2:=fun a o e n=>t a o (s a o e n) n
theorem Jp.put {H:Hp} {ss:Addr} {xs zs:List V} (e:H ss = some (.lst xs)):Jp H (upd H ss (.lst zs)):=fun _ _ h n=>(A8 (Bb h e (n _))).trans h
theorem Aq.lQ {H H':Hp} {a:Addr} {ws:List Int} {cm:Option Int} (s:Jp H H') (h:Aq H a ws cm):Aq H' a ws cm:=by
 obtain ⟨t,h1,h2⟩ := h
 exact ⟨t,s _ _ h1 (fun _=>HO.noConfusion),s _ _ h2 (fun _=>HO.noConfusion)⟩
theorem Cc.lQ {H H':Hp} {a:Addr} {ls:List Int} {q:Int} (s:Jp H H') (h:Cc H a ls q):Cc H' a ls q:=by
 obtain ⟨t,h1,h2⟩ := h
 exact ⟨t,s _ _ h1 (fun _=>HO.noConfusion),s _ _ h2 (fun _=>HO.noConfusion)⟩
theorem Ba.lQ {C:Addr} {H H':Hp} {x dx:Addr} {ws:List Int} {cm:Option Int} {ls:List Int} {q:Int} {tv:List ((List Int × Int) × V)} {w:V} (s:Jp H H') (h:Ba C H x dx ws cm ls q tv w):Ba C H' x dx ws cm ls q tv w:=by
 obtain ⟨a,b,TB,h1,h2,h3,h4⟩ := h
 exact ⟨a,b,TB,s _ _ h1 (fun _=>HO.noConfusion),h2.lQ s,h3.lQ s,s _ _ h4 (fun _=>HO.noConfusion)⟩
theorem Jd.lQ {C:Addr} {H H':Hp} {x dx:Addr} {hv tb sv:V} (s:Jp H H') (h:Jd C H x dx hv tb sv):Jd C H' x dx hv tb sv:=by
 obtain ⟨p,TB,b,ws,ls,cm,q,tv,dM,e1,e2,e3,hD,ha,hb,hT,r⟩ := h
 exact ⟨p,TB,b,ws,ls,cm,q,tv,dM,e1,e2,e3,hD.lQ s,ha.lQ s,hb.lQ s,s _ _ hT (fun _=>HO.noConfusion),r⟩
def ae (H:Hp) (hv tb sv:V) (ws:List Int) (cm:Option Int):Prop := ∃ p TB b dM,hv = V.ref p /\ tb = V.ref TB /\ sv = V.ref b /\ Aq H p ws cm /\ H TB = some (.dT dM) /\ Cc H b ws 0 /\ Ct ws cm dM /\ D3 ws cm
theorem ae.but {C:Addr} {H H':Hp} {x dx:Addr} {fs:List (Str × V)} {hv tb sv:V} {ws:List Int} {cm:Option Int} (s:Da x H H') (hx:H x = some (.ins C dx fs)) (h:ae H hv tb sv ws cm):ae H' hv tb sv ws cm:=by
 obtain ⟨p,TB,b,dM,e1,e2,e3,ha,hT,hb,r⟩ := h
 exact ⟨p,TB,b,dM,e1,e2,e3,ha.but s hx,s.dT hx hT,hb.but s hx,r⟩
theorem ae.cell {C:Addr} {H:Hp} {x dx:Addr} {hv tb sv:V} {ws:List Int} {cm:Option Int} {tv:List ((List Int × Int) × V)} (h:ae H hv tb sv ws cm) (hD:Ba C H x dx ws cm ws 0 tv .cZ) (ht:Ct ws cm tv):Jd C H x dx hv tb sv:=by
 obtain ⟨p,TB,b,dM,e1,e2,e3,ha,hT,hb,h1,h2⟩ := h
 exact ⟨p,TB,b,ws,ws,cm,0,tv,dM,e1,e2,e3,hD,ha,hb,hT,ht,h1,h2,Ft h2⟩
theorem B5.but {C:Addr} {K:PySem.W.Frag} {H H':Hp} {x dx a:Addr} {fs:List (Str × V)} {xs:List V} (s:Da x H H') (hx:H x = some (.ins C dx fs)) (h:B5 K H a xs):B5 K H' a xs:=by
 rcases h with (h | ⟨o,h⟩) | h
 ·exact .inl (.inl (s _ _ (Bb h hx HO.noConfusion) h))
 ·exact .inl (.inr ⟨o,s _ _ (Bb h hx HO.noConfusion) h⟩)
 ·exact .inr h
def Ls (C:Addr) (H:Hp) (x0 x1 jJ jK ds hs ts ss:Addr):Prop := ∃ h0 h1 t0 t1 s0 s1:V,H ds = some (.lst [.ref x0,.ref x1]) /\ H hs = some (.lst [h0,h1]) /\ H ts = some (.lst [t0,t1]) /\ H ss = some (.lst [s0,s1]) /\ ∀ j,j < 2 -> Jd C H (tw x0 x1 j) (tw jJ jK j) (tw h0 h1 j) (tw t0 t1 j) (tw s0 s1 j)
theorem Ls.same {C:Addr} {H H':Hp} {x0 x1 jJ jK ds hs ts ss:Addr} (s:A6 H H') (h:Ls C H x0 x1 jJ jK ds hs ts ss):Ls C H' x0 x1 jJ jK ds hs ts ss:=by
 obtain ⟨h0,h1,t0,t1,s0,s1,e1,e2,e3,e4,h⟩ := h
 exact ⟨h0,h1,t0,t1,s0,s1,s _ _ e1,s _ _ e2,s _ _ e3,s _ _ e4,fun j hj=>(h j hj).same s⟩
theorem Iu {a b u:V} {i j:Nat} (hj:j < 2):tw (if 0 = i then u else a) (if 1 = i then u else b) j = if j = i then u else tw a b j:=by
 have:j = 0 \/ j = 1:=by omega
 rcases this with rfl | rfl <;> rfl
theorem Ye:B2 [V.cZ] [Value.none] := .cons rfl .nil
theorem Hm:B2 [V.bl false] [Value.bool false] := .cons rfl .nil
theorem T5:B2 [V.bl false] [Value.bool false] := .cons rfl .nil
theorem mn {us:List Value} (h:us.length = 0):us = []:=List.length_eq_zero_iff.mp h
theorem Ex {us:List Value} (h:us.length = 1):∃ a0,us = [a0]:=by
 cases us with
 | nil=>cases h
 | cons a us =>
  obtain rfl:=mn (Nat.succ.inj h)
  exact ⟨a,rfl⟩
theorem Hk {us:List Value} (h:us.length = 2):∃ a0 a1,us = [a0,a1]:=by
 cases us with
 | nil=>cases h
 | cons a us =>
  obtain ⟨a1,rfl⟩ := Ex (Nat.succ.inj h)
  exact ⟨a,a1,rfl⟩
theorem Pa {us:List Value} (h:us.length = 3):∃ a0 a1 a2,us = [a0,a1,a2]:=by
 cases us with
 | nil=>cases h
 | cons a us =>
  obtain ⟨a1,a2,rfl⟩ := Hk (Nat.succ.inj h)
  exact ⟨a,a1,a2,rfl⟩
theorem Pb {us:List Value} (h:us.length = 4):∃ a0 a1 a2 a3,us = [a0,a1,a2,a3]:=by
 cases us with
 | nil=>cases h
 | cons a us =>
  obtain ⟨a1,a2,a3,rfl⟩ := Pa (Nat.succ.inj h)
  exact ⟨a,a1,a2,a3,rfl⟩
theorem mo {us:List Value} (h:us.length = 5):∃ a0 a1 a2 a3 a4,us = [a0,a1,a2,a3,a4]:=by
 cases us with
 | nil=>cases h
 | cons a us =>
  obtain ⟨a1,a2,a3,a4,rfl⟩ := Pb (Nat.succ.inj h)
  exact ⟨a,a1,a2,a3,a4,rfl⟩
seal M5 PS PE PT PA PI PG PW
section
variable {P:Program} {w:World} {K:PySem.W.Frag} {mg:Str -> Option Value} {base:Heap} {aX aV aY bJ cO bA cP aW bB bC cN bK bL bM cQ bN cR bD bE bO bG bH bP bQ bR bS bT cS cT bU cU cV bV cW bI bW bX bZ cA cB cC aZ cD cE cF cH cJ aC aA aE aB aD aI aK aL aM aO aP aN aF aJ aH aG:Addr}
def P4 (K:PySem.W.Frag) (aC aA aE aB aD aF:Addr):Sp:=fun vs H Q E=>(∃ (a:Addr) (ws:List Int) (cm:Option Int),vs = [.ref a,vO cm] /\ H a = some (.lst (ws.map V.int)) /\ 0 < ws.length /\ ws.length <= 8 /\ (∀ x ∈ ws,1 <= x) /\ (∀ c,cm = some c -> 1 <= c) /\ ∀ (p:Addr) (H':Hp),A6 H H' -> Aq H' p ws cm -> Q (.ref p) H') \/ (∃ (a:Addr) (ws:List Int) (cm:Option Int),vs = [.ref a,vO cm] /\ H a = some (.lst (ws.map V.int)) /\ a9 ws cm /\ ∀ H2,A6 H H2 -> E (.ref aC) none H2)
theorem d6 {fd  : FuncData} (T:Txt K mg aX aV aY bJ cO bA cP aW bB bC cN bK bL bM cQ bN cR bD bE bO bG bH bP bQ bR bS bT cS cT bU cU cV bV cW bI bW bX bZ cA cB cC aZ cD cE cF cH cJ aC aA aE aB aD aI aK aL aM aO aP aN aF aJ aH aG) (F:Pf K "hall_of" "hall_of" Fd aX fd):A9 P w K mg base (Ax P w) 1 aX fd ["waits","calm"] (P4 K aC aA aE aB aD aF):=by
 refine F.lZ ff (fun vs H Q E h=>?_) (fun dB A outer s H vs Q E hr h=>?_)
 ·rcases h with ⟨a,ws,cm,rfl,ha,RC,uq,fB,lM,q⟩ | ⟨a,ws,cm,rfl,ha,bad,he⟩ <;> rfl
 ·obtain h:=h
  refine ⟨_,(A2 (B6 (PW.pt (Fp (An Ha (Ap (C6 K) (by rfl) T.eR PySem.boot_len (A0 (pv 0) A3)) A7 (Am _)) (On (An Tm (Ap (C6 K) (by rfl) T.eR PySem.boot_len (A0 (pv 0) A3)) (Br (v := .int 8) (by rfl) T.gU.choose_spec ⟨_,rfl⟩) (Am _))))) (A5 (D8 F4 rfl (by rfl) T.fX T.e_NoHall (A0 Ab A3))) Ae) (A2 (B6 (An Ha (Ap (Hs K rfl) (by rfl) T.lN boot_min (A0 (pv 0) A3)) A7 (Am _)) (A5 (D8 F4 rfl (by rfl) T.fX T.e_NoHall (A0 Ab A3))) Ae) (A2 (B6 (PW.pt (Hg (An Hb (pv 1) C5 (Am _)) (Fx (An Ha (pv 1) A7 (Am _))))) (A5 (D8 F4 rfl (by rfl) T.fX T.e_NoHall (A0 Ab A3))) Ae) (A5 (Af (D0 (A0 (Bg G7 (by rfl) T.nN boot_tuple (A0 (pv 0) A3)) (A0 (pv 1) A3)))))))),?_⟩
  rcases h with ⟨a,ws,cm,rfl,ha,RC,uq,fB,lM,q⟩ | ⟨a,ws,cm,rfl,ha,bad,he⟩
  ·refine ⟨_,rfl,a,_,rfl,.inl (B5.of ha),_,_,rfl,rfl,_,rfl,false,fun _ Q' z=>⟨_,rfl,a,_,rfl,.inl (B5.of ha),_,_,rfl,rfl,_,rfl,?_⟩,Az ?_ ?_⟩
   ·have e:decide (((ws.map V.int).length:Int) > 8) = false:=decide_eq_false (by rw [List.length_map]; omega)
    first | (rw [e]; exact z) | (rw [show decide ((8:Int) < ((ws.map V.int).length:Int)) = false from decide_eq_false (by rw [List.length_map]; omega)]; exact z)
   ·rw [decide_eq_false (show ¬ ((ws.map V.int).length:Int) < 1 by rw [List.length_map]; omega)]
    rfl
   refine ⟨_,rfl,a,ws,rfl,.inl (B5.of ha),RC,fun m hm _=>⟨_,_,rfl,rfl,_,rfl,Az ?_ ?_⟩⟩
   ·have:=fB m hm
    exact decide_eq_false (by omega)
   refine ⟨_,rfl,rfl,_,rfl,false,fun e Q' z=>?_,Az ?_ ?_⟩
   ·cases cm with
    | none=>simp [vO] at e
    | some c =>
     have:=lM c rfl
     refine ⟨_,rfl,_,_,rfl,rfl,_,rfl,?_⟩
     rw [decide_eq_false (show ¬ c < 1 by omega)]
     exact z
   ·rw [Bool.and_false]
   refine ⟨_,rfl,a,_,rfl,.inl ⟨B5.of ha,fun t ht=>⟨_,rfl,Bi,fun p hp=>?_⟩⟩⟩
   have s1:A6 H (upd H t (.tup (ws.map V.int))):=A6.upd ht
   have s2:A6 (upd H t (.tup (ws.map V.int))) (upd (upd H t (.tup (ws.map V.int))) p (.tup [.ref t,vO cm])):=A6.upd hp
   exact q p _ (s1.trans s2) ⟨t,A1,s2 _ _ A1⟩
  ·refine ⟨_,rfl,a,_,rfl,.inl (B5.of ha),_,_,rfl,rfl,_,rfl,decide (((ws.map V.int).length:Int) > 8),fun _ Q' z=>⟨_,rfl,a,_,rfl,.inl (B5.of ha),_,_,rfl,rfl,_,rfl,z⟩,?_⟩
   refine E9 (fun _=>⟨Ef,he⟩) (fun h0=>?_)
   have hlen:1 <= ws.length /\ ws.length <= 8:=by
    rw [List.length_map] at h0
    simp only [Bool.or_eq_true,decide_eq_true_eq,not_or] at h0
    omega
   refine ⟨_,rfl,a,ws,rfl,.inl (B5.of ha),by omega,fun m hm mQ=>⟨_,_,rfl,rfl,_,rfl,?_⟩⟩
   refine E9 (fun _=>⟨Ef,he⟩) (fun h1=>?_)
   have hm1:¬ m < 1:=by simpa using h1
   have hc:∃ c,cm = some c /\ c < 1:=by
    rcases bad with b | b | ⟨x,hx,mC⟩ | b
    ·omega
    ·omega
    ·have:=mQ x hx
     omega
    ·exact b
   obtain ⟨c,rfl,UX⟩ := hc
   refine ⟨_,rfl,rfl,_,rfl,true,fun e Q' z=>⟨_,rfl,_,_,rfl,rfl,_,rfl,?_⟩,Cm rfl ⟨Ef,he⟩⟩
   rw [decide_eq_true UX]
   exact z
def Gk (K:PySem.W.Frag):Sp:=fun vs H Q _=>∃ (a:Addr) (ws:List Int) (cm:Option Int),vs = [.ref a] /\ Aq H a ws cm /\ ∀ (p:Addr) (H':Hp),A6 H H' -> Cc H' p ws 0 -> Q (.ref p) H'
theorem ci {fd  : FuncData} (T:Txt K mg aX aV aY bJ cO bA cP aW bB bC cN bK bL bM cQ bN cR bD bE bO bG bH bP bQ bR bS bT cS cT bU cU cV bV cW bI bW bX bZ cA cB cC aZ cD cE cF cH cJ aC aA aE aB aD aI aK aL aM aO aP aN aF aJ aH aG) (F:Dn K "beginning" "beginning" N6 aV fd):A9 P w K mg base (Ax P w) 1 aV fd ["hall"] (Gk K):=by
 refine F.okN f8 (fun vs H Q E h=>?_) (fun dB A outer s H vs Q E hr h=>?_)
 ·rcases h with ⟨a,ws,cm,rfl,⟨t,ha,ht⟩,q⟩ <;> rfl
 ·obtain ⟨a,ws,cm,rfl,⟨t,ha,ht⟩,q⟩ := h
  refine ⟨_,(A5 (Af (D0 (A0 (Au (Aw K) (pv 0) A7 (fun _ _=>rfl)) (A0 A7 A3))))),?_⟩
  refine ⟨_,rfl,a,_,_,_,rfl,rfl,.inr (Bw.of ha),rfl,?_⟩
  exact ⟨Bi,fun p hp=>q p _ (A6.upd hp) ⟨t,A1,A6.upd hp _ _ ht⟩⟩
def Lo (K:PySem.W.Frag):Sp:=fun vs H Q _=>∃ (a b:Addr) (ws ls:List Int) (calm:Option Int) (q:Int),vs = [.ref a,.ref b] /\ Aq H a ws calm /\ Cc H b ls q /\ Q (.bl (!decide (calm = none) && decide (q = 0))) H
theorem cr {fd  : FuncData} (T:Txt K mg aX aV aY bJ cO bA cP aW bB bC cN bK bL bM cQ bN cR bD bE bO bG bH bP bQ bR bS bT cS cT bU cU cV bV cW bI bW bX bZ cA cB cC aZ cD cE cF cH cJ aC aA aE aB aD aI aK aL aM aO aP aN aF aJ aH aG) (F:Dn K "may_lose" "may_lose" N9 aY fd):A9 P w K mg base (Ax P w) 1 aY fd ["hall","standing"] (Lo K):=by
 refine F.okN fc (fun vs H Q E h=>?_) (fun dB A outer s H vs Q E hr h=>?_)
 ·rcases h with ⟨a,b,ws,ls,calm,n,rfl,⟨t,ha,_⟩,⟨u,hb,_⟩,q⟩ <;> rfl
 ·obtain ⟨a,b,ws,ls,calm,n,rfl,⟨t,ha,_⟩,⟨u,hb,_⟩,q⟩ := h
  refine ⟨_,(A5 (Af (Hc (Bk Hb (Au (Aw K) (pv 0) A7 (fun _ _=>rfl)) C5 (Am _)) (Kz (Bk Ci (Au (Aw K) (pv 1) A7 (fun _ _=>rfl)) A7 (Am _)))))),?_⟩
  refine ⟨_,rfl,a,_,_,_,rfl,rfl,.inr (Bw.of ha),rfl,rfl,_,decide (V.int n = V.int 0),rfl,fun _ Q' z=>⟨_,rfl,b,_,_,_,rfl,rfl,.inr (Bw.of hb),rfl,rfl,z⟩,?_⟩
  have e2:decide (V.int n = V.int 0) = decide (n = 0):=by simp
  rw [Yc,e2]
  exact q
def S9 (K:PySem.W.Frag):Sp:=fun vs H Q _=>∃ (a:Addr) (ws:List Int) (calm:Option Int) (who:Int),vs = [.ref a,.int who] /\ Aq H a ws calm /\ Q (.bl (decide (0 <= who /\ who < ws.length))) H
theorem bz {fd  : FuncData} (T:Txt K mg aX aV aY bJ cO bA cP aW bB bC cN bK bL bM cQ bN cR bD bE bO bG bH bP bQ bR bS bT cS cT bU cU cV bV cW bI bW bX bZ cA cB cC aZ cD cE cF cH cJ aC aA aE aB aD aI aK aL aM aO aP aN aF aJ aH aG) (F:Dn K "is_listener" "is_listener" N1 bJ fd):A9 P w K mg base (Ax P w) 1 bJ fd ["hall","who"] (S9 K):=by
 refine F.okN eg (fun vs H Q E h=>?_) (fun dB A outer s H vs Q E hr h=>?_)
 ·rcases h with ⟨a,ws,calm,who,rfl,⟨t,fF,fA⟩,q⟩ <;> rfl
 ·obtain ⟨a,ws,calm,who,rfl,⟨t,fF,fA⟩,q⟩ := h
  refine ⟨_,(A5 (Af (Hc (Bk ir (pv 1) A7 (Am _)) (Kz (Bk Ha (pv 1) (Ap (C6 K) (by rfl) T.eR PySem.boot_len (A0 (Au (Aw K) (pv 0) A7 (fun _ _=>rfl)) A3)) (Am _)))))),?_⟩
  refine ⟨_,rfl,_,_,rfl,rfl,_,decide (who < (ws.length:Int)),rfl,fun _ Q' z=>⟨_,rfl,_,rfl,a,_,_,_,rfl,rfl,.inr (Bw.of fF),rfl,t,_,rfl,.inr (Bw.of fA),_,_,rfl,rfl,?_⟩,?_⟩
  ·rw [List.length_map]
   exact z
  ·rw [show (decide (who >= 0) && decide (who < (ws.length:Int))) = decide (0 <= who /\ who < (ws.length:Int)) by rw [Bool.decide_and]]
   exact q
def Y2 (K:PySem.W.Frag) (aC aA aE aB aD aF:Addr):Sp:=fun vs H Q E=>(∃ (a b:Addr) (ws ls:List Int) (calm:Option Int) (q:Int) (who:Nat) (lost:Bool),vs = [.ref a,.ref b,.int who,.bl lost] /\ Aq H a ws calm /\ Cc H b ls q /\ who < ws.length /\ K3 calm q lost /\ Q .cZ H) \/ (∃ (a b:Addr) (ws ls:List Int) (calm:Option Int) (q:Int) (who:Int) (lost:Bool),vs = [.ref a,.ref b,.int who,.bl lost] /\ Aq H a ws calm /\ Cc H b ls q /\ gj H ws calm q who lost aA aE E)
theorem ie {fd pH fG:FuncData} (T:Txt K mg aX aV aY bJ cO bA cP aW bB bC cN bK bL bM cQ bN cR bD bE bO bG bH bP bQ bR bS bT cS cT bU cU cV bV cW bI bW bX bZ cA cB cC aZ cD cE cF cH cJ aC aA aE aB aD aI aK aL aM aO aP aN aF aJ aH aG) (F:Dn K "refuse_wrong_turn" "refuse_wrong_turn" Vf cO fd) (pI:A9 P w K mg base (Ax P w) 1 bJ pH ["hall","who"] (S9 K)) (pJ:Ah K pH ["hall","who"] []) (fZ:A9 P w K mg base (Ax P w) 1 aY fG ["hall","standing"] (Lo K)) (gA:Ah K fG ["hall","standing"] []):A9 P w K mg base (Ax P w) 2 cO fd ["hall","standing","who","lost"] (Y2 K aC aA aE aB aD aF):=by
 refine F.lZ jd (fun vs H Q E h=>?_) (fun dB A outer s H vs Q E hr h=>?_)
 ·rcases h with ⟨a,b,ws,ls,calm,n,who,lost,rfl,ha,hb,hw,hm,q⟩ | ⟨a,b,ws,ls,calm,n,who,lost,rfl,ha,hb,bad⟩ <;> rfl
 ·obtain h:=h
  refine ⟨_,(A2 (B6 (D9 (Bj (Ad pI (hr.mono (by decide)) rfl T.JD T.k_x14 pJ .nil Ar (A0 (pv 0) (A0 (pv 2) A3))))) (A5 (D8 F4 rfl (by rfl) T.fY T.e_NoListener (A0 Ab A3))) Ae) (A5 (B6 (PW.pt (Hg (Bj (pv 3)) (Fx (D9 (Bj (Ad fZ (hr.mono (by decide)) rfl T.pw T.k_x29 gA .nil Ar (A0 (pv 0) (A0 (pv 1) A3)))))))) (A5 (D8 F4 rfl (by rfl) T.lP T.e_NoLoss (A0 Ab A3))) Ae))),?_⟩
  rcases h with ⟨a,b,ws,ls,calm,n,who,lost,rfl,ha,hb,hw,hm,q⟩ | ⟨a,b,ws,ls,calm,n,who,lost,rfl,ha,hb,bad⟩
  ·obtain ⟨t,fF,fA⟩ := id ha
   refine ⟨_,rfl,_,rfl,a,ws,calm,(who:Int),rfl,ha,_,rfl,Az ?_ ?_⟩
   ·rw [decide_eq_true (show (0:Int) <= (who:Int) /\ (who:Int) < (ws.length:Int) by omega)]
    rfl
   refine ⟨_,rfl,_,rfl,!(!decide (calm = none) && decide (n = 0)),fun _ Q' z=>⟨_,rfl,_,rfl,a,b,ws,ls,calm,n,rfl,ha,hb,_,rfl,z⟩,Az ?_ q⟩
   cases lost with
   | false=>rfl
   | true =>
    obtain ⟨h1,h2⟩ := hm rfl
    simp [h1,h2]
  ·rcases bad with ⟨h1,he⟩ | ⟨h1,h2,h3,he⟩
   ·refine ⟨_,rfl,_,rfl,a,ws,calm,who,rfl,ha,_,rfl,Cm ?_ ⟨Ef,he⟩⟩
    rw [decide_eq_false h1]
    rfl
   ·refine ⟨_,rfl,_,rfl,a,ws,calm,who,rfl,ha,_,rfl,Az ?_ ?_⟩
    ·rw [decide_eq_true h1]
     rfl
    refine ⟨_,rfl,_,rfl,!(!decide (calm = none) && decide (n = 0)),fun _ Q' z=>⟨_,rfl,_,rfl,a,b,ws,ls,calm,n,rfl,ha,hb,_,rfl,z⟩,Cm ?_ ⟨Ef,he⟩⟩
    rw [h2]
    by_cases z1:calm = none
    ·simp [z1]
    ·have z2:¬ n = 0:=fun z=>h3 ⟨z1,z⟩
     simp [z2]
def P1 (K:PySem.W.Frag) (aC aA aE aB aD aF:Addr):Sp:=fun vs H Q E=>(∃ (a b:Addr) (ws ls:List Int) (calm:Option Int) (q:Int) (who:Nat) (lost:Bool),vs = [.ref a,.ref b,.int who,.bl lost] /\ Aq H a ws calm /\ Cc H b ls q /\ who < ws.length /\ ls.length = ws.length /\ ws.length <= 8 /\ K3 calm q lost /\
 ∀ (l:Addr) (H':Hp),H l = none -> A6 H H' -> H' l = some (.lst ((Be ws ls who lost).map V.int)) -> Q (.ref l) H') \/ (∃ (a b:Addr) (ws ls:List Int) (calm:Option Int) (q:Int) (who:Int) (lost:Bool),vs = [.ref a,.ref b,.int who,.bl lost] /\ Aq H a ws calm /\ Cc H b ls q /\ gj H ws calm q who lost aA aE E)
theorem c0 {fd ur:FuncData} (T:Txt K mg aX aV aY bJ cO bA cP aW bB bC cN bK bL bM cQ bN cR bD bE bO bG bH bP bQ bR bS bT cS cT bU cU cV bV cW bI bW bX bZ cA cB cC aZ cD cE cF cH cJ aC aA aE aB aD aI aK aL aM aO aP aN aF aJ aH aG) (F:Dn K "left_behind" "left_behind" Lb bA fd) (wx:A9 P w K mg base (Ax P w) 2 cO ur ["hall","standing","who","lost"] (Y2 K aC aA aE aB aD aF)) (wy:Ah K ur ["hall","standing","who","lost"] []):A9 P w K mg base (Ax P w) 3 bA fd ["hall","standing","who","lost"] (P1 K aC aA aE aB aD aF):=by
 refine F.lZ Xt (fun vs H Q E h=>?_) (fun dB A outer s H vs Q E hr h=>?_)
 ·rcases h with ⟨a,b,ws,ls,calm,n,who,lost,rfl,ha,hb,hw,hl,h8,hm,q⟩ | ⟨a,b,ws,ls,calm,n,who,lost,rfl,ha,hb,bad⟩ <;> rfl
 ·obtain h:=h
  refine ⟨_,(A2 (Cf (C7 wx (hr.mono (by decide)) rfl T.UL T.k_x2 wy .nil E2 (A0 (pv 0) (A0 (pv 1) (A0 (pv 2) (A0 (pv 3) A3)))))) (A2 (Dg (i:=4) Xt.nd rfl (Dc (Au (Aw K) (pv 1) A7 (fun _ _=>rfl))) _ rfl Hv rfl rfl (fun _ _ _ _=>(Av (i:=0) Ic rfl (Or.inl rfl))) (fun _ _ _ _=>Cr) (fun _ _ _ _=>(As X9 (pv 0) A7)) rfl rfl) (A2 (Df (D9 (Bj (pv 3))) (A5 (L6 (Au (Aw K) (Au (Aw K) (pv 0) A7 (fun _ _=>rfl)) (pv 2) (fun _ _=>rfl)) (L3 (pv 4) (pv 2) Fr))) Ae) (A5 (Af (pv 4)))))),?_⟩
  rcases h with ⟨a,b,ws,ls,calm,n,who,lost,rfl,ha,hb,hw,hl,h8,hm,q⟩ | ⟨a,b,ws,ls,calm,n,who,lost,rfl,ha,hb,bad⟩
  ·obtain ⟨t,fF,fA⟩ := id ha
   obtain ⟨u,lR,gY⟩ := id hb
   refine ⟨_,rfl,_,rfl,_,rfl,_,rfl,E,fun _ _ _ z=>z,.inl ⟨a,b,ws,ls,calm,n,who,lost,rfl,ha,hb,hw,hm,?_⟩⟩
   refine ⟨_,rfl,b,_,_,_,rfl,rfl,.inr (Bw.of lR),rfl,u,rfl,.inr ⟨⟨_,Bw.of gY⟩,fun D hD=>?_⟩⟩
   refine K5 (K:=K) (a:=u) (xs:=ls.map V.int) (fun i ys H'=>ys = ((ls.take i).map (fun x=>x - 1)).map V.int /\ H' D = some (.lst ys) /\ A6 H H') ⟨rfl,A1,A6.upd hD⟩ (fun i ys H' _ ⟨_,_,s⟩=>Bw.of (s _ _ gY)) ?_ ?_
   ·rintro i x ys H' hx ⟨rfl,oG,s'⟩ Qe hQ
    rw [List.getElem?_map] at hx
    obtain ⟨y,hy,rfl⟩ := Option.map_eq_some_iff.mp hx
    have hi:=(List.getElem?_eq_some_iff.mp hy).1
    refine ⟨_,rfl,_,_,rfl,rfl,hQ _ _ oG (B3 (by simp; omega)) ⟨?_,A1,s'.new hD⟩⟩
    rw [List.take_add_one,hy]
    simp
   rintro ys H2 ⟨rfl,jL,s2⟩
   rw [List.length_map,List.take_length] at jL
   refine ⟨_,rfl,_,rfl,(fun σ' H'=>σ' = [some (.ref a),some (.ref b),some (.int (who:Nat)),some (.bl lost),some (.ref D)] /\ A6 H H' /\ H' D = some (.lst ((Be ws ls who lost).map V.int))),fun e=>?_,fun e=>?_,?_⟩
   ·have e':lost = false:=by simpa using e
    subst e'
    refine ⟨_,rfl,a,_,_,_,rfl,rfl,.inr (Bw.of (s2 _ _ fF)),rfl,_,rfl,t,_,_,_,rfl,rfl,.inr (Bw.of (s2 _ _ fA)),Th hw,?_⟩
    refine ⟨_,rfl,_,rfl,D,_,_,_,rfl,rfl,jL,Gs (by simp; omega),rfl,s2.new hD,?_⟩
    rw [A1]
    unfold Be
    simp
   ·have e':lost = true:=by simpa using e
    subst e'
    exact ⟨rfl,s2,jL⟩
   ·rintro σ' H' ⟨rfl,s3,e3⟩
    exact ⟨_,rfl,q D H' hD s3 e3⟩
  ·exact ⟨_,rfl,_,rfl,_,rfl,_,rfl,E,fun _ _ _ z=>z,.inr ⟨a,b,ws,ls,calm,n,who,lost,rfl,ha,hb,bad⟩⟩
def Y8 (K:PySem.W.Frag):Sp:=fun vs H Q _=>∃ (a b:Addr) (ws ls:List Int) (calm:Option Int) (q:Int) (lost:Bool),vs = [.ref a,.ref b,.bl lost] /\ Aq H a ws calm /\ Cc H b ls q /\ K3 calm q lost /\ Q (.int (Cv calm q lost)) H
theorem im {fd  : FuncData} (T:Txt K mg aX aV aY bJ cO bA cP aW bB bC cN bK bL bM cQ bN cR bD bE bO bG bH bP bQ bR bS bT cS cT bU cU cV bV cW bI bW bX bZ cA cB cC aZ cD cE cF cH cJ aC aA aE aB aD aI aK aL aM aO aP aN aF aJ aH aG) (F:Dn K "quiet_behind" "quiet_behind" Vl cP fd):A9 P w K mg base (Ax P w) 1 cP fd ["hall","standing","lost"] (Y8 K):=by
 refine F.okN jh (fun vs H Q E h=>?_) (fun dB A outer s H vs Q E hr h=>?_)
 ·rcases h with ⟨a,b,ws,ls,calm,n,lost,rfl,⟨t,ha,_⟩,⟨u,hb,_⟩,hm,q⟩ <;> rfl
 ·obtain ⟨a,b,ws,ls,calm,n,lost,rfl,⟨t,ha,_⟩,⟨u,hb,_⟩,hm,q⟩ := h
  refine ⟨_,(A2 (B6 (Bj (pv 2)) (A5 (Af (Au (Aw K) (pv 0) A7 (fun _ _=>rfl)))) Ae) (A5 (Af (Ap (U6 rfl) (by rfl) T.um boot_max (A0 (As X9 (Au (Aw K) (pv 1) A7 (fun _ _=>rfl)) A7) (A0 A7 A3)))))),?_⟩
  refine ⟨_,rfl,_,rfl,?_⟩
  cases lost with
  | true =>
   refine Cm rfl ?_
   refine ⟨_,rfl,a,_,_,_,rfl,rfl,.inr (Bw.of ha),rfl,?_⟩
   cases calm with
   | none=>exact absurd rfl (hm rfl).1
   | some c=>exact q
  | false =>
   refine Az rfl ?_
   refine ⟨_,rfl,b,_,_,_,rfl,rfl,.inr (Bw.of hb),rfl,_,_,rfl,rfl,_,_,rfl,?_⟩
   have e:(if (0:Int) > n - 1 then (0:Int) else n - 1) = Cv calm n false:=by
    unfold Cv
    rw [if_neg Bool.false_ne_true]
    omega
   show Q (.int (if (0:Int) > n - 1 then (0:Int) else n - 1)) H
   rw [e]
   exact q
def Ip (K:PySem.W.Frag) (aC aA aE aB aD aF:Addr):Sp:=fun vs H Q E=>(∃ (a b:Addr) (ws ls:List Int) (calm:Option Int) (q:Int) (who:Nat) (lost:Bool),vs = [.ref a,.ref b,.int who,.bl lost] /\ Aq H a ws calm /\ Cc H b ls q /\ who < ws.length /\ ls.length = ws.length /\ ws.length <= 8 /\ K3 calm q lost /\
 ((0:Int) ∈ Be ws ls who lost -> ∀ H',A6 H H' -> Q .cZ H') /\ ((0:Int) ∉ Be ws ls who lost -> ∀ (p:Addr) (H':Hp),A6 H H' -> Cc H' p (Be ws ls who lost) (Cv calm q lost) -> Q (.ref p) H')) \/ (∃ (a b:Addr) (ws ls:List Int) (calm:Option Int) (q:Int) (who:Int) (lost:Bool),vs = [.ref a,.ref b,.int who,.bl lost] /\ Aq H a ws calm /\ Cc H b ls q /\ gj H ws calm q who lost aA aE E)
theorem de {fd iV uu:FuncData} (T:Txt K mg aX aV aY bJ cO bA cP aW bB bC cN bK bL bM cQ bN cR bD bE bO bG bH bP bQ bR bS bT cS cT bU cU cV bV cW bI bW bX bZ cA cB cC aZ cD cE cF cH cJ aC aA aE aB aD aI aK aL aM aO aP aN aF aJ aH aG) (F:Pf K "after" "after" Fe aW fd) (jW:A9 P w K mg base (Ax P w) 3 bA iV ["hall","standing","who","lost"] (P1 K aC aA aE aB aD aF)) (jX:Ah K iV ["hall","standing","who","lost"] []) (wz:A9 P w K mg base (Ax P w) 1 cP uu ["hall","standing","lost"] (Y8 K)) (wA:Ah K uu ["hall","standing","lost"] []):A9 P w K mg base (Ax P w) 4 aW fd ["hall","standing","who","lost"] (Ip K aC aA aE aB aD aF):=by
 refine F.lZ Xy (fun vs H Q E h=>?_) (fun dB A outer s H vs Q E hr h=>?_)
 ·rcases h with ⟨a,b,ws,ls,calm,n,who,lost,rfl,ha,hb,hw,hl,h8,hm,q1,q2⟩ | ⟨a,b,ws,ls,calm,n,who,lost,rfl,ha,hb,bad⟩ <;> rfl
 ·obtain h:=h
  refine ⟨_,(A2 (Al (i:=4) Xy.nd rfl (Or.inl rfl) (C7 jW (hr.mono (by decide)) rfl T.u6 T.k_x15 jX .nil E2 (A0 (pv 0) (A0 (pv 1) (A0 (pv 2) (A0 (pv 3) A3)))))) (A2 (B6 (An (Og K) A7 (pv 4) rfl) (A5 (Af C5)) Ae) (A5 (Af (D0 (A0 (Bg G7 (by rfl) T.nN boot_tuple (A0 (pv 4) A3)) (A0 (Ad wz (hr.mono (by decide)) rfl T.UM T.k_x8 wA .nil Ar (A0 (pv 0) (A0 (pv 1) (A0 (pv 3) A3)))) A3))))))),?_⟩
  rcases h with ⟨a,b,ws,ls,calm,n,who,lost,rfl,ha,hb,hw,hl,h8,hm,q1,q2⟩ | ⟨a,b,ws,ls,calm,n,who,lost,rfl,ha,hb,bad⟩
  ·refine ⟨_,rfl,_,rfl,_,rfl,_,rfl,E,fun _ _ _ z=>z,.inl ⟨a,b,ws,ls,calm,n,who,lost,rfl,ha,hb,hw,hl,h8,hm,fun l H1 GU s1 sA=>?_⟩⟩
   refine ⟨_,rfl,l,_,rfl,.inl (B5.of sA),rfl,Mh _,_,rfl,?_⟩
   rw [Q7]
   refine E9 (fun h0=>?_) (fun h0=>?_)
   ·exact q1 (by simpa using h0) H1 s1
   ·refine ⟨_,rfl,l,_,rfl,.inl ⟨B5.of sA,fun t ht=>?_⟩⟩
    have s2:A6 H (upd H1 t (.tup ((Be ws ls who lost).map V.int))):=s1.new (s1.free ht)
    refine ⟨_,rfl,_,rfl,_,rfl,a,b,ws,ls,calm,n,lost,rfl,ha.same s2,hb.same s2,hm,Bi,fun p hp=>?_⟩
    refine q2 (by simpa using h0) p _ (s2.new (s2.free hp)) ⟨t,A1,?_⟩
    rw [A8 (fun e=>by rw [<- e,A1] at hp; cases hp),A1]
  ·exact ⟨_,rfl,_,rfl,_,rfl,_,rfl,E,fun _ _ _ z=>z,.inr ⟨a,b,ws,ls,calm,n,who,lost,rfl,ha,hb,bad⟩⟩
def P2 (K:PySem.W.Frag):Sp:=fun vs H Q _=>∃ (a b:Addr) (ws ls:List Int) (cm:Option Int) (q w:Int) (who:Nat),vs = [.ref a,.ref b,.int w] /\ w = (who:Int) /\ Aq H a ws cm /\ Cc H b ls q /\ who < ws.length /\ ls.length = ws.length /\ ws.length <= 8 /\
 ∀ (l:Addr) (us:List V) (H':Hp),H l = none -> A6 H H' -> H' l = some (.lst us) -> B0 (Ga H') (Bf ws ls cm q who) us -> Q (.ref l) H'
theorem cc {fd dJ fG:FuncData} (T:Txt K mg aX aV aY bJ cO bA cP aW bB bC cN bK bL bM cQ bN cR bD bE bO bG bH bP bQ bR bS bT cS cT bU cU cV bV cW bI bW bX bZ cA cB cC aZ cD cE cF cH cJ aC aA aE aB aD aI aK aL aM aO aP aN aF aJ aH aG) (F:Dn K "all_behind" "all_behind" N4 bB fd) (eG:A9 P w K mg base (Ax P w) 4 aW dJ ["hall","standing","who","lost"] (Ip K aC aA aE aB aD aF)) (eU:Ah K dJ ["hall","standing","who","lost"] []) (dC:Ah K dJ ["hall","standing","who","lost"] [Value.bool false]) (fZ:A9 P w K mg base (Ax P w) 1 aY fG ["hall","standing"] (Lo K)) (gA:Ah K fG ["hall","standing"] []):A9 P w K mg base (Ax P w) 5 bB fd ["hall","standing","who"] (P2 K):=by
 refine F.okN Xv (fun vs H Q E h=>?_) (fun dB A outer s H vs Q E hr h=>?_)
 ·rcases h with ⟨a,b,ws,ls,cm,n,w0,who,rfl,rfl,ha,hb,hw,hl,h8,q⟩ <;> rfl
 ·obtain ⟨a,b,ws,ls,cm,n,w0,who,rfl,rfl,ha,hb,hw,hl,h8,q⟩ := h
  refine ⟨_,(A2 (Al (i:=3) Xv.nd rfl (Or.inl rfl) (Ck (A0 (V8 (Ad eG (hr.mono (by decide)) rfl T.jT T.k_x42 dC (Hm) Ar (A0 (pv 0) (A0 (pv 1) (A0 (pv 2) A3))))) A3))) (A2 (Df (Bj (Ad fZ (hr.mono (by decide)) rfl T.pw T.k_x29 gA .nil Ar (A0 (pv 0) (A0 (pv 1) A3)))) (A5 (Cf (E3 PySem.F.plainAttrs_list PySem.F.slot_list_append PySem.F.type_list_append Cq (pv 3) (A0 (V8 (Ad eG (hr.mono (by decide)) rfl T.jT T.k_x42 eU .nil Ar (A0 (pv 0) (A0 (pv 1) (A0 (pv 2) (A0 Fm A3)))))) A3)))) Ae) (A5 (Af (pv 3))))),?_⟩
  refine ⟨(fun v H9=>Ga H9 (En ws ls cm n who false) v /\ A6 H H9),⟨_,rfl,_,rfl,_,rfl,.inl ⟨a,b,ws,ls,cm,n,who,false,rfl,ha,hb,hw,hl,h8,(fun z=>nomatch z),(fun hz H2 s2=>⟨by unfold En; rw [if_pos hz]; rfl,s2⟩),fun hz p H2 s2 eP=>⟨by unfold En; rw [if_neg hz]; exact ⟨p,rfl,eP⟩,s2⟩⟩⟩,?_⟩
  rintro v H1 ⟨hv,s1⟩
  refine ⟨Bi,fun L hL=>?_⟩
  have s2:A6 H1 (upd H1 L (.lst [v])):=A6.upd hL
  have e2:(upd H1 L (.lst [v])) L = some (.lst [v]):=A1
  generalize upd H1 L (.lst [v]) = H2 at s2 e2 ⊢
  have eC:=s1.trans s2
  refine ⟨_,rfl,_,rfl,a,b,ws,ls,cm,n,rfl,ha.same eC,hb.same eC,_,rfl,(fun σ' H'=>∃ us:List V,σ' = [some (.ref a),some (.ref b),some (.int who),some (.ref L)] /\ H' L = some (.lst us) /\ B0 (Ga H') (Bf ws ls cm n who) us /\ A6 H H'),fun hm=>?_,fun hm=>?_,?_⟩
  ·have jS:Gh cm n = true:=hm
   have wB:K3 cm n true:=fun _=>by
    unfold Gh at jS
    simp only [Bool.and_eq_true,Bool.not_eq_true',decide_eq_false_iff_not,decide_eq_true_eq] at jS
    exact jS
   refine ⟨_,rfl,.inl ⟨rfl,_,B5.of e2⟩,(fun v H9=>Ga H9 (En ws ls cm n who true) v /\ A6 H2 H9),⟨_,rfl,_,rfl,_,rfl,.inl ⟨a,b,ws,ls,cm,n,who,true,rfl,ha.same eC,hb.same eC,hw,hl,h8,wB,(fun hz H2 s2=>⟨by unfold En; rw [if_pos hz]; rfl,s2⟩),fun hz p H2 s2 eP=>⟨by unfold En; rw [if_neg hz]; exact ⟨p,rfl,eP⟩,s2⟩⟩⟩,?_⟩
   rintro v2 H3 ⟨u4,s3⟩
   have e3:=s3 _ _ e2
   have tt:B1 H3 (upd H3 L (.lst ([v] ++ [v2]))):=B1.lst e3
   refine ⟨L,_,_,rfl,rfl,e3,B3 (by simp),[v] ++ [v2],rfl,A1,?_,(eC.trans s3).new (s1.free hL)⟩
   unfold Bf
   rw [if_pos jS]
   exact B0.cons (hv.up (((B1.of s2).trans (B1.of s3)).trans tt)) (B0.one (u4.up tt))
  ·have jS : ¬ Gh cm n = true := by
    rw [show Gh cm n = false from hm]
    exact Bool.false_ne_true
   refine ⟨[v],rfl,e2,?_,eC⟩
   unfold Bf
   rw [if_neg jS]
   exact B0.one (hv.up (B1.of s2))
  rintro σ' H' ⟨us,rfl,eL,hall,s'⟩
  exact ⟨_,rfl,q L us H' (s1.free hL) s' eL hall⟩
def Sa (K:PySem.W.Frag) (aC aA aE aB aD aF:Addr):Sp:=fun vs H Q E=>(∃ (a b:Addr) (ws ls:List Int) (calm:Option Int) (q:Int) (who:Nat) (lost:Bool),vs = [.ref a,.ref b,.int who,.bl lost] /\ Aq H a ws calm /\ Cc H b ls q /\ who < ws.length /\ ls.length = ws.length /\ ws.length <= 8 /\ K3 calm q lost /\
 ∀ (l:Addr) (H':Hp),H l = none -> A6 H H' -> H' l = some (.lst ((Dp (Be ws ls who lost) ws.length).map V.int)) -> Q (.ref l) H') \/ (∃ (a b:Addr) (ws ls:List Int) (calm:Option Int) (q:Int) (who:Int) (lost:Bool),vs = [.ref a,.ref b,.int who,.bl lost] /\ Aq H a ws calm /\ Cc H b ls q /\ gj H ws calm q who lost aA aE E)
theorem c6 {fd iV:FuncData} (T:Txt K mg aX aV aY bJ cO bA cP aW bB bC cN bK bL bM cQ bN cR bD bE bO bG bH bP bQ bR bS bT cS cT bU cU cV bV cW bI bW bX bZ cA cB cC aZ cD cE cF cH cJ aC aA aE aB aD aI aK aL aM aO aP aN aF aJ aH aG) (F:Pf K "broken_ones" "broken_ones" Eu bC fd) (jW:A9 P w K mg base (Ax P w) 3 bA iV ["hall","standing","who","lost"] (P1 K aC aA aE aB aD aF)) (jX:Ah K iV ["hall","standing","who","lost"] []):A9 P w K mg base (Ax P w) 4 bC fd ["hall","standing","who","lost"] (Sa K aC aA aE aB aD aF):=by
 refine F.lZ Xu (fun vs H Q E h=>?_) (fun dB A outer s H vs Q E hr h=>?_)
 ·rcases h with ⟨a,b,ws,ls,calm,n,who,lost,rfl,ha,hb,hw,hl,h8,hm,q⟩ | ⟨a,b,ws,ls,calm,n,who,lost,rfl,ha,hb,bad⟩ <;> rfl
 ·obtain h:=h
  refine ⟨_,(A2 (Al (i:=4) Xu.nd rfl (Or.inl rfl) (C7 jW (hr.mono (by decide)) rfl T.u6 T.k_x15 jX .nil E2 (A0 (pv 0) (A0 (pv 1) (A0 (pv 2) (A0 (pv 3) A3)))))) (A5 (Af (Dk (Xi (by rfl) T.lO (A0 (pv 4) A3)) _ rfl Hu rfl rfl (fun _ _ _ _=>(Hd K (n:=2) rfl (Cy (Av (i:=0) Er rfl (Or.inl rfl)) (Cy (Av (i:=1) Er rfl (Or.inl rfl)) He)))) (fun _ _ _ _=>(Om (An Ci (pv 1) A7 (Am _)))) (fun _ _ _ _=>(pv 0)))))),?_⟩
  rcases h with ⟨a,b,ws,ls,calm,n,who,lost,rfl,ha,hb,hw,hl,h8,hm,q⟩ | ⟨a,b,ws,ls,calm,n,who,lost,rfl,ha,hb,bad⟩
  ·refine ⟨_,rfl,_,rfl,_,rfl,_,rfl,E,fun _ _ _ z=>z,.inl ⟨a,b,ws,ls,calm,n,who,lost,rfl,ha,hb,hw,hl,h8,hm,fun l H1 GU s1 sA=>?_⟩⟩
   have hL:(Be ws ls who lost).length = ws.length:=by rw [F0]; exact hl
   generalize Be ws ls who lost = L at sA hL ⊢ q
   refine ⟨_,rfl,false,l,rfl,⟨_,B5.of sA⟩,fun D hD=>?_⟩
   refine Ra (K:=K) (b1:=false) (c:=l) (xs:=L.map V.int) (fun i ys H'=>ys = (Dp L i).map V.int /\ H' D = some (.lst ys) /\ A6 H1 H') ⟨rfl,A1,A6.upd hD⟩ (fun i ys H' _ ⟨_,_,s⟩=>B5.of (s _ _ sA)) ?_ ?_ ?_ ?_
   ·rintro i x T ys H2 hx ⟨rfl,jL,s2⟩ hT
    rw [List.getElem?_map] at hx
    obtain ⟨y,hy,rfl⟩ := Option.map_eq_some_iff.mp hx
    have hi:=(List.getElem?_eq_some_iff.mp hy).1
    have ey:L.getD i 0 = y:=by rw [List.getD_eq_getElem?_getD,hy]; rfl
    have s3:A6 H2 (upd H2 T (.tup [V.int (i:Nat),V.int y])):=A6.upd hT
    have hbl:=Eh L i
    refine ⟨_,rfl,rfl,_,rfl,?_⟩
    refine E9 (fun h0=>?_) (fun h0=>?_)
    ·have h1:y = 0:=by simpa using h0
     refine ⟨_,rfl,s3 _ _ jL,B3 (by rw [List.length_map]; omega),?_,A1,(s2.trans s3).new hD⟩
     rw [Eb,ey,if_pos h1,List.map_append]
     rfl
    ·have h1:¬ y = 0:=by simpa using h0
     refine ⟨?_,s3 _ _ jL,s2.trans s3⟩
     rw [Eb,ey,if_neg h1,List.append_nil]
   ·rintro σ H' Q1 Q2 hQ ⟨v,e1,e2,c,e3,z⟩
    exact ⟨v,e1,e2,c,e3,hQ _ _ z⟩
   ·rintro σ H' Q1 Q2 hQ ⟨v,e1,z⟩
    exact ⟨v,e1,hQ _ _ z⟩
   ·rintro ys H2 ⟨rfl,jL,s2⟩
    rw [List.length_map,hL] at jL
    exact q D H2 (s1.free hD) (s1.trans s2) jL
  ·exact ⟨_,rfl,_,rfl,_,rfl,_,rfl,E,fun _ _ _ z=>z,.inr ⟨a,b,ws,ls,calm,n,who,lost,rfl,ha,hb,bad⟩⟩
def Tu (K:PySem.W.Frag):Sp:=fun vs H Q _=>∃ (a:Addr) (ws:List Int) (cm:Option Int),vs = [.ref a] /\ Aq H a ws cm /\ Q (.int (qv cm)) H
theorem ip {fd  : FuncData} (T:Txt K mg aX aV aY bJ cO bA cP aW bB bC cN bK bL bM cQ bN cR bD bE bO bG bH bP bQ bR bS bT cS cT bU cU cV bV cW bI bW bX bZ cA cB cC aZ cD cE cF cH cJ aC aA aE aB aD aI aK aL aM aO aP aN aF aJ aH aG) (F:Dn K "quiet_values" "quiet_values" Vm cN fd):A9 P w K mg base (Ax P w) 1 cN fd ["hall"] (Tu K):=by
 refine F.okN ji (fun vs H Q E h=>?_) (fun dB A outer s H vs Q E hr h=>?_)
 ·rcases h with ⟨a,ws,cm,rfl,⟨t,fF,fA⟩,q⟩ <;> rfl
 ·obtain ⟨a,ws,cm,rfl,⟨t,fF,fA⟩,q⟩ := h
  refine ⟨_,(A5 (Af (Qn (An Kw (Au (Aw K) (pv 0) A7 (fun _ _=>rfl)) C5 (Am _)) A7 (As Ej (Au (Aw K) (pv 0) A7 (fun _ _=>rfl)) A7)))),?_⟩
  cases cm with
  | none=>exact ⟨_,rfl,a,_,_,_,rfl,rfl,.inr (Bw.of fF),rfl,rfl,_,rfl,Cm rfl q⟩
  | some c=>exact ⟨_,rfl,a,_,_,_,rfl,rfl,.inr (Bw.of fF),rfl,rfl,_,rfl,Az rfl ⟨_,rfl,a,_,_,_,rfl,rfl,.inr (Bw.of fF),rfl,_,_,rfl,rfl,q⟩⟩
def Sj (K:PySem.W.Frag):Sp:=fun vs H Q _=>∃ (a:Addr) (ws:List Int) (cm:Option Int),vs = [.ref a] /\ Aq H a ws cm /\ (∀ w ∈ ws,intBits w <= 256) /\ intBits (qv cm) <= 256 /\ ws.length <= 8 /\ Q (.int (B7 (qv cm) ws)) H
theorem cu {fd lS:FuncData} (T:Txt K mg aX aV aY bJ cO bA cP aW bB bC cN bK bL bM cQ bN cR bD bE bO bG bH bP bQ bR bS bT cS cT bU cU cV bV cW bI bW bX bZ cA cB cC aZ cD cE cF cH cJ aC aA aE aB aD aI aK aL aM aO aP aN aF aJ aH aG) (F:Dn K "how_many" "how_many" Na bK fd) (oH:A9 P w K mg base (Ax P w) 1 cN lS ["hall"] (Tu K)) (oJ:Ah K lS ["hall"] []):A9 P w K mg base (Ax P w) 2 bK fd ["hall"] (Sj K):=by
 refine F.okN Ox (fun vs H Q E h=>?_) (fun dB A outer s H vs Q E hr h=>?_)
 ·rcases h with ⟨a,ws,cm,rfl,⟨t,fF,fA⟩,hb,lU,hl,q⟩ <;> rfl
 ·obtain ⟨a,ws,cm,rfl,⟨t,fF,fA⟩,hb,lU,hl,q⟩ := h
  refine ⟨_,(A2 (Al (i:=1) Ox.nd rfl (Or.inl rfl) (Ad oH (hr.mono (by decide)) rfl T.JF T.k_x9 oJ .nil Ar (A0 (pv 0) A3))) (A2 (Cu PassesOwn.never rfl (Dc (Au (Aw K) (pv 0) A7 (fun _ _=>rfl))) (Av (i:=2) Ox.nd rfl (Or.inl rfl)) (A5 (Al (i:=1) Ox.nd rfl (Or.inl rfl) (As Tn (pv 1) (pv 2))))) (A5 (Af (pv 1))))),?_⟩
  refine ⟨_,rfl,a,ws,cm,rfl,⟨t,fF,fA⟩,?_⟩
  refine ⟨_,rfl,a,_,_,_,rfl,rfl,.inr (Bw.of fF),rfl,t,rfl,.inr ⟨⟨_,Bw.of fA⟩,?_⟩⟩
  refine Tg (K:=K) (a:=t) (xs:=ws.map V.int) (fun i σ H'=>∃ v2:Option V,σ = [some (.ref a),some (.int (B7 (qv cm) (ws.take i))),v2] /\ H' = H) ⟨none,rfl,rfl⟩ (fun i σ H' _ ⟨_,_,e⟩=>by rw [e]; exact Bw.of fA) ?_ ?_
  ·rintro i y σ H' hy ⟨v2,rfl,eH⟩
   subst eH
   rw [List.getElem?_map] at hy
   obtain ⟨x,hx,rfl⟩ := Option.map_eq_some_iff.mp hy
   have hi:=(List.getElem?_eq_some_iff.mp hx).1
   have b1:=Mt lU hb i (by omega)
   refine ⟨_,rfl,_,rfl,_,_,rfl,rfl,Zw b1 (hb x (List.mem_of_getElem? hx)) (by omega),?_⟩
   refine ⟨some (.int x),?_,rfl⟩
   have e:B7 (qv cm) (ws.take (i + 1)) = B7 (qv cm) (ws.take i) * x:=Ep _ _ _ hx
   rw [e]
   rfl
  ·rintro σ H' ⟨v2,rfl,eH⟩
   subst eH
   rw [List.length_map,List.take_length]
   exact ⟨_,rfl,q⟩
def Sk (K:PySem.W.Frag):Sp:=fun vs H Q _=>∃ (t:Addr) (ws:List Int),vs = [.ref t] /\ H t = some (.tup (ws.map V.int)) /\ (∀ w ∈ ws,1 <= w) /\ B7 1 ws <= 3000 /\ ws.length <= 8 /\ ∀ (l:Addr) (us:List V) (H':Hp),H l = none -> A6 H H' -> H' l = some (.lst us) -> B0 (Ea H') (Bu ws) us -> Q (.ref l) H'
theorem cw {fd  : FuncData} (T:Txt K mg aX aV aY bJ cO bA cP aW bB bC cN bK bL bM cQ bN cR bD bE bO bG bH bP bQ bR bS bT cS cT bU cU cV bV cW bI bW bX bZ cA cB cC aZ cD cE cF cH cJ aC aA aE aB aD aI aK aL aM aO aP aN aF aJ aH aG) (F:Dn K "all_left" "all_left" Li bL fd):A9 P w K mg base (Ax P w) 1 bL fd ["waits"] (Sk K):=by
 refine F.okN Ij (fun vs H Q E h=>?_) (fun dB A outer s H vs Q E hr h=>?_)
 ·rcases h with ⟨t,ws,rfl,ht,fB,hp,jM,q⟩ <;> rfl
 ·obtain ⟨t,ws,rfl,ht,fB,hp,jM,q⟩ := h
  refine ⟨_,(A2 (Al (i:=1) Ij.nd rfl (Or.inl rfl) (Ck (A0 (D0 A3) A3))) (A2 (Cu PassesOwn.never rfl (Dc (pv 0)) (Av (i:=2) Ij.nd rfl (Or.inl rfl)) (A2 (Al (i:=3) Ij.nd rfl (Or.inl rfl) (Ck A3)) (A2 (Cu PassesOwn.never rfl (Dc (pv 1)) (Av (i:=4) Ij.nd rfl (Or.inr rfl)) (A5 (Cf (E3 PySem.F.plainAttrs_list PySem.F.slot_list_extend PySem.F.type_list_extend Mq (pv 3) (A0 (Dk (V9 (by rfl) T.eA (A0 A7 (A0 (As Ej (pv 2) A7) A3))) _ rfl Lx rfl rfl (fun _ _ _ _=>(Av (i:=0) Lz rfl (Or.inl rfl))) (fun _ _ _ _=>Cr) (fun _ _ _ _=>(As (Z8 K) (pv 1) (D0 (A0 (pv 0) A3))))) A3))))) (A5 (Al (i:=1) Ij.nd rfl (Or.inl rfl) (pv 3)))))) (A5 (Af (pv 1))))),?_⟩
  refine ⟨Bi,fun E0 hE0=>⟨Bi,fun L0 UY=>?_⟩⟩
  have s0:A6 H (upd H E0 (.tup [])):=A6.upd hE0
  have e0:(upd H E0 (.tup [])) E0 = some (.tup (([]:List Int).map V.int)):=A1
  generalize upd H E0 (.tup []) = H0 at s0 e0 UY ⊢
  have s1:A6 H0 (upd H0 L0 (.lst [.ref E0])):=A6.upd UY
  have e1:(upd H0 L0 (.lst [.ref E0])) L0 = some (.lst [.ref E0]):=A1
  have r1:B0 (Ea (upd H0 L0 (.lst [.ref E0]))) (Bu (ws.take 0)) [.ref E0]:=B0.one ⟨E0,rfl,s1 _ _ e0⟩
  generalize upd H0 L0 (.lst [.ref E0]) = H1 at s1 e1 r1 ⊢
  have s01:=s0.trans s1
  refine ⟨_,rfl,t,rfl,.inr ⟨⟨_,Bw.of (s01 _ _ ht)⟩,?_⟩⟩
  refine Tg (K:=K) (a:=t) (xs:=ws.map V.int) (fun i σ H'=>∃ (L:Addr) (us:List V) (v2 v3 v4:Option V),σ = [some (.ref t),some (.ref L),v2,v3,v4] /\ H' L = some (.lst us) /\ A6 H H' /\ B0 (Ea H') (Bu (ws.take i)) us /\ H L = none)
   ⟨L0,_,none,none,none,rfl,e1,s01,r1,s0.free UY⟩ (fun i σ H' _ ⟨_,_,_,_,_,_,_,s,_,_⟩=>Bw.of (s _ _ ht)) ?_ ?_
  ·rintro i y σ H2 hy ⟨L,us,v2,v3,v4,rfl,f1,s2,f2,hL⟩
   rw [List.getElem?_map] at hy
   obtain ⟨w,hw,rfl⟩ := Option.map_eq_some_iff.mp hy
   have hwi:=fB w (List.mem_of_getElem? hw)
   have KC:=Mw fB hp i
   have nQ:=Mw fB hp (i + 1)
   have wC:Bu (ws.take (i + 1)) = Bn (Bu (ws.take i)) w:=Ep _ _ _ hw
   rw [wC,Lq] at nQ
   have hiw:=(List.getElem?_eq_some_iff.mp hw).1
   have hrl:∀ r ∈ Bu (ws.take i),r.length <= 8:=fun r hr=>by
    have:=(Hi ws i (by omega) r hr).1
    omega
   generalize Bu (ws.take i) = rows at f2 KC nQ wC hrl
   refine ⟨Bi,fun D hD=>?_⟩
   have s3:A6 H2 (upd H2 D (.lst [])):=A6.upd hD
   have e3:(upd H2 D (.lst [])) D = some (.lst []):=A1
   have f3:=s3 _ _ f1
   have g3:=f2.imp fun r v z=>Ea.up (B1.of s3) z
   have UZ:L ≠ D:=Aa f1 hD
   generalize upd H2 D (.lst []) = H3 at s3 e3 f3 g3 ⊢
   refine ⟨_,rfl,L,rfl,.inl ⟨⟨_,B5.of f3⟩,?_⟩⟩
   refine Dl (K:=K) (a:=L) (xs:=us) (fun j σ H'=>∃ (zs:List V) (v4:Option V),σ = [some (.ref t),some (.ref L),some (.int w),some (.ref D),v4] /\ H' D = some (.lst zs) /\ H' L = some (.lst us) /\ A6 H2 H' /\ B0 (Ea H') (Bn (rows.take j) w) zs)
    ⟨[],v4,rfl,e3,f3,s3,B0.nil⟩ (fun j σ H' _ ⟨_,_,_,_,e,_⟩=>B5.of e) ?_ ?_
   ·rintro j y σ H4 hy ⟨zs,v4',rfl,h1,h2,s4,h3⟩
    have g4:=f2.imp fun r v z=>Ea.up (B1.of s4) z
    obtain ⟨r,mB,p,rfl,VA⟩ := g4.get hy
    have hj:=(List.getElem?_eq_some_iff.mp mB).1
    have hr8:=hrl r (List.mem_of_getElem? mB)
    have ezl:zs.length = (rows.take j).length * w.toNat:=by rw [h3.1,Lq]
    have GV:zs.length <= 3000:=by
     rw [ezl]
     refine Nat.le_trans (Nat.mul_le_mul_right _ ?_) nQ
     rw [List.length_take]
     omega
    have hw3:w.toNat <= 3000:=Nat.le_trans (Nat.le_mul_of_pos_left _ (by omega)) nQ
    refine ⟨_,rfl,.inl ⟨rfl,_,B5.of h1⟩,_,rfl,_,_,rfl,rfl,1,w + 1,rfl,by omega,fun B hB=>?_⟩
    refine Ez (fun m ys H'=>H' B = some (.lst ys) /\ A6 H4 H' /\ B0 (Ea H') ((List.range m).map fun t=>r ++ [1 + ((t:Nat):Int)]) ys) ⟨A1,A6.upd hB,B0.nil⟩ ?_ ?_
    ·rintro m ys H5 hm ⟨k1,s5,k2⟩ Qe hQ
     refine ⟨_,rfl,_,rfl,Bi,fun P hP=>?_⟩
     have s6:A6 H5 (upd H5 P (.tup [.int (1 + (m:Int))])):=A6.upd hP
     refine ⟨p,P,_,_,rfl,rfl,Bw.of (s6 _ _ (s5 _ _ VA)),A1,by simp,Nat.le_of_lt (Ev (by simp; omega)),fun p' H6 s7 e7=>?_⟩
     generalize upd H5 P (.tup [.int (1 + (m:Int))]) = H5' at s6 s7
     have VB:=s6.trans s7
     have uv:=VB _ _ k1
     have kl:ys.length = m:=by rw [k2.1]; simp
     refine hQ _ _ uv (Ev (by omega)) ⟨A1,(s5.trans VB).new hB,?_⟩
     have tu:B1 H5 (upd H6 B (.lst (ys ++ [.ref p']))):=(B1.of VB).trans (B1.lst uv)
     rw [List.range_succ,List.map_append]
     refine (k2.imp fun r v z=>Ea.up tu z).append (B0.one ⟨p',rfl,?_⟩)
     refine B1.lst uv _ _ ?_
     rw [e7,List.map_append]
     rfl
    ·rintro ys H5 ⟨k1,s5,k2⟩
     have eB:((List.range (w + 1 - 1).toNat).map fun t=>r ++ [1 + ((t:Nat):Int)]) = O9 r w:=by
      rw [show w + 1 - 1 = w by omega]
      rfl
     rw [eB] at k2
     have sZ:=s5 _ _ h1
     have kl:ys.length = w.toNat:=by rw [k2.1,Qd]
     refine ⟨D,B,_,_,rfl,rfl,sZ,k1,Nat.le_of_lt (Ev (by omega)),?_⟩
     have tu:B1 H5 (upd H5 D (.lst (zs ++ ys))):=B1.lst sZ
     refine ⟨zs ++ ys,_,rfl,A1,by rw [A8 UZ]; exact s5 _ _ h2,(s4.trans s5).new hD,?_⟩
     have e:Bn (rows.take (j + 1)) w = Bn (rows.take j) w ++ O9 r w:=Mi _ _ mB
     rw [e]
     exact (h3.imp fun r v z=>Ea.up ((B1.of s5).trans tu) z).append (k2.imp fun r v z=>Ea.up tu z)
   ·rintro σ H4 ⟨zs,v4',rfl,h1,h2,s4,h3⟩
    rw [f2.1,List.take_length] at h3
    refine ⟨_,rfl,D,zs,_,_,_,rfl,h1,s2.trans s4,?_,s2.free hD⟩
    rw [wC]
    exact h3
  ·rintro σ H2 ⟨L,us,v2,v3,v4,rfl,f1,s2,f2,hL⟩
   rw [List.length_map,List.take_length] at f2
   exact ⟨_,rfl,q L us H2 hL s2 f1 f2⟩
def Sg (K:PySem.W.Frag) (aC aA aE aB aD aF:Addr):Sp:=fun vs H Q E=>(∃ (a:Addr) (ws:List Int) (cm:Option Int),vs = [.ref a] /\ Aq H a ws cm /\ (∀ w ∈ ws,1 <= w) /\ 1 <= qv cm /\ (∀ w ∈ ws,intBits w <= 256) /\ intBits (qv cm) <= 256 /\ ws.length <= 8 /\ B7 (qv cm) ws <= 3000 /\
 ∀ (l:Addr) (us:List V) (H':Hp),H l = none -> A6 H H' -> H' l = some (.lst us) -> B0 (Iw H') (Bc ws (qv cm)) us -> Q (.ref l) H') \/ (∃ (a:Addr) (ws:List Int) (cm:Option Int),vs = [.ref a] /\ Aq H a ws cm /\ (∀ w ∈ ws,intBits w <= 256) /\ intBits (qv cm) <= 256 /\ ws.length <= 8 /\ 3000 < B7 (qv cm) ws /\ ∀ H2,A6 H H2 -> E (.ref aB) none H2)
theorem cj {fd pK pL lS:FuncData} (T:Txt K mg aX aV aY bJ cO bA cP aW bB bC cN bK bL bM cQ bN cR bD bE bO bG bH bP bQ bR bS bT cS cT bU cU cV bV cW bI bW bX bZ cA cB cC aZ cD cE cF cH cJ aC aA aE aB aD aI aK aL aM aO aP aN aF aJ aH aG) (F:Dn K "standings" "standings" Ld bM fd) (pM:A9 P w K mg base (Ax P w) 2 bK pK ["hall"] (Sj K)) (pN:Ah K pK ["hall"] []) (pO:A9 P w K mg base (Ax P w) 1 bL pL ["waits"] (Sk K)) (pP:Ah K pL ["waits"] []) (oH:A9 P w K mg base (Ax P w) 1 cN lS ["hall"] (Tu K)) (oJ:Ah K lS ["hall"] []):A9 P w K mg base (Ax P w) 3 bM fd ["hall"] (Sg K aC aA aE aB aD aF):=by
 refine F.lZ S3 (fun vs H Q E h=>?_) (fun dB A outer s H vs Q E hr h=>?_)
 ·rcases h with ⟨a,ws,cm,rfl,⟨t,fF,fA⟩,fB,uw,hb,lU,jM,hp,q⟩ | ⟨a,ws,cm,rfl,_,_,_,_,_,_⟩ <;> rfl
 ·obtain h:=h
  refine ⟨_,(A2 (B6 (An Tm (Ad pM (hr.mono (by decide)) rfl T.JG T.k_x30 pN .nil Ar (A0 (pv 0) A3)) (Br (v := .int 3000) (by rfl) T.gW.choose_spec ⟨_,rfl⟩) (Am _)) (A5 (D8 F4 rfl (by rfl) T.jV T.e_TooMany (A0 Ab A3))) Ae) (A2 (Al (i:=1) S3.nd rfl (Or.inl rfl) (Ck A3)) (A2 (Cu Xb rfl (Dc (Ad pO (hr.mono (by decide)) rfl T.JH T.k_x31 pP .nil Ar (A0 (Au (Aw K) (pv 0) A7 (fun _ _=>rfl)) A3))) (Av (i:=2) S3.nd rfl (Or.inr rfl)) (A5 (Cf (E3 PySem.F.plainAttrs_list PySem.F.slot_list_extend PySem.F.type_list_extend Mq (pv 1) (A0 (Dk (D4 (by rfl) T.eA (A0 (Ad oH (hr.mono (by decide)) rfl T.JF T.k_x9 oJ .nil Ar (A0 (pv 0) A3)) A3)) _ rfl K8 rfl rfl (fun _ _ _ _=>(Av (i:=0) Ku rfl (Or.inl rfl))) (fun _ _ _ _=>Cr) (fun _ _ _ _=>(D0 (A0 (pv 1) (A0 (pv 0) A3))))) A3))))) (A5 (Af (pv 1)))))),?_⟩
  rcases h with ⟨a,ws,cm,rfl,⟨t,fF,fA⟩,fB,uw,hb,lU,jM,hp,q⟩ | ⟨a,ws,cm,rfl,⟨t,fF,fA⟩,hb,lU,jM,hp,he⟩
  ·have VC : B7 1 ws <= 3000 := by
    have e:=Rx (qv cm) ws 1
    rw [Int.mul_one] at e
    have h1:1 <= B7 1 ws:=Fw ws 1 (by decide) fB
    have h2:=Int.mul_le_mul_of_nonneg_right uw (show 0 <= B7 1 ws by omega)
    rw [Int.one_mul] at h2
    omega
   have hq3:qv cm <= 3000:=Int.le_trans (Fw ws _ (by omega) fB) hp
   refine ⟨_,rfl,a,ws,cm,rfl,⟨t,fF,fA⟩,hb,lU,jM,_,_,rfl,rfl,_,rfl,Az (decide_eq_false (by omega)) ?_⟩
   refine ⟨Bi,fun D hD=>?_⟩
   have s1:A6 H (upd H D (.lst [])):=A6.upd hD
   have e1:(upd H D (.lst [])) D = some (.lst []):=A1
   generalize upd H D (.lst []) = H1 at s1 e1 ⊢
   refine ⟨_,rfl,a,_,_,_,rfl,rfl,.inr (Bw.of (s1 _ _ fF)),rfl,t,ws,rfl,s1 _ _ fA,fB,VC,jM,fun L us H2 hL s2 f1 f2=>⟨L,rfl,.inl ⟨⟨_,B5.of f1⟩,?_⟩⟩⟩
   have s02:=s1.trans s2
   have e2:=s2 _ _ e1
   have UZ:L ≠ D:=(Aa e1 hL).symm
   refine Dl (K:=K) (a:=L) (xs:=us) (fun j σ H'=>∃ (zs:List V) (v2:Option V),σ = [some (.ref a),some (.ref D),v2] /\ H' D = some (.lst zs) /\ H' L = some (.lst us) /\ A6 H H' /\ B1 H2 H' /\ B0 (Iw H') (((Bu ws).take j).flatMap fun r=>Ew r (qv cm)) zs)
    ⟨[],none,rfl,e2,f1,s02,B1.of (A6.refl _),B0.nil⟩ (fun j σ H' _ ⟨_,_,_,_,e,_⟩=>B5.of e) ?_ ?_
   ·rintro j y σ H4 hy ⟨zs,v2,rfl,h1,h2,s4,t4,h3⟩
    have g4:=f2.imp fun r v z=>Ea.up t4 z
    obtain ⟨r,mB,p,rfl,VA⟩ := g4.get hy
    have hj:=(List.getElem?_eq_some_iff.mp mB).1
    have GV:zs.length <= 3000:=by
     have e:=No (ws:=ws) (q:=qv cm) fB (by omega)
     rw [h3.1]
     have e2:Bc ws (qv cm) = (((Bu ws).take j).flatMap fun r=>Ew r (qv cm)) ++ (((Bu ws).drop j).flatMap fun r=>Ew r (qv cm)):=by
      rw [<- List.flatMap_append,List.take_append_drop]
      rfl
     rw [e2,List.length_append] at e
     omega
    refine ⟨_,rfl,.inl ⟨rfl,_,B5.of h1⟩,_,rfl,a,ws,cm,rfl,⟨t,s4 _ _ fF,s4 _ _ fA⟩,qv cm,rfl,by omega,by omega,fun B hB=>?_⟩
    refine Ez (fun m ys H'=>H' B = some (.lst ys) /\ A6 H4 H' /\ B0 (Iw H') ((List.range m).map fun k=>(r,0 + ((k:Nat):Int))) ys) ⟨A1,A6.upd hB,B0.nil⟩ ?_ ?_
    ·rintro m ys H5 hm ⟨k1,s5,k2⟩ Qe hQ
     refine ⟨_,rfl,_,rfl,Bi,fun P hP=>?_⟩
     have s6:A6 H5 (upd H5 P (.tup [.ref p,.int (0 + (m:Int))])):=A6.upd hP
     have e6:(upd H5 P (.tup [.ref p,.int (0 + (m:Int))])) P = some (.tup [.ref p,.int (0 + (m:Int))]):=A1
     generalize upd H5 P (.tup [.ref p,.int (0 + (m:Int))]) = H6 at s6 e6
     have uv:=s6 _ _ k1
     have kl:ys.length = m:=by rw [k2.1]; simp
     refine hQ _ _ uv (Ev (by omega)) ⟨A1,(s5.trans s6).new hB,?_⟩
     have tu:B1 H5 (upd H6 B (.lst (ys ++ [.ref P]))):=(B1.of s6).trans (B1.lst uv)
     rw [List.range_succ,List.map_append]
     refine (k2.imp fun r v z=>Iw.up tu z).append (B0.one ⟨P,p,rfl,?_,?_⟩)
     ·exact B1.lst uv _ _ e6
     ·exact B1.lst uv _ _ (s6 _ _ (s5 _ _ VA))
    ·rintro ys H5 ⟨k1,s5,k2⟩
     have sZ:=s5 _ _ h1
     have k3:B0 (Iw H5) (Ew r (qv cm)) ys:=k2
     have kl:ys.length = (qv cm).toNat:=by rw [k3.1,Nq]
     refine ⟨D,B,_,_,rfl,rfl,sZ,k1,Nat.le_of_lt (Ev (by omega)),?_⟩
     have tu:B1 H5 (upd H5 D (.lst (zs ++ ys))):=B1.lst sZ
     refine ⟨zs ++ ys,_,rfl,A1,by rw [A8 UZ]; exact s5 _ _ h2,(s4.trans s5).new hD,(t4.trans (B1.of s5)).trans tu,?_⟩
     have e:(((Bu ws).take (j + 1)).flatMap fun r=>Ew r (qv cm)) = (((Bu ws).take j).flatMap fun r=>Ew r (qv cm)) ++ Ew r (qv cm):=Mi _ _ mB
     rw [e]
     exact (h3.imp fun r v z=>Iw.up ((B1.of s5).trans tu) z).append (k3.imp fun r v z=>Iw.up tu z)
   ·rintro σ H4 ⟨zs,v2,rfl,h1,h2,s4,t4,h3⟩
    rw [f2.1,List.take_length] at h3
    exact ⟨_,rfl,q D zs H4 hD s4 h1 h3⟩
  ·refine ⟨_,rfl,a,ws,cm,rfl,⟨t,fF,fA⟩,hb,lU,jM,_,_,rfl,rfl,_,rfl,Cm (decide_eq_true (by omega)) ⟨Ef,he⟩⟩
def Y3 (K:PySem.W.Frag) (aC aA aE aB aD aF:Addr):Sp:=fun vs H Q E=>(∃ (a:Addr) (ws:List Int) (cm:Option Int),vs = [.ref a] /\ Aq H a ws cm /\ (∀ w ∈ ws,1 <= w) /\ 1 <= qv cm /\ (∀ w ∈ ws,intBits w <= 256) /\ intBits (qv cm) <= 256 /\ ws.length <= 8 /\ B7 (qv cm) ws <= 3000 /\
 ∀ (D:Addr) (kvs:List ((List Int × Int) × V)) (H':Hp),H D = none -> A6 H H' -> H' D = some (.dT kvs) -> Ch ws cm H' kvs -> kvs.map (·.1) = Bc ws (qv cm) -> K2 ws cm H' kvs -> (∀ kv ∈ kvs,∀ c,kv.2 = .ref c -> H c = none) -> kvs.length <= 3000 -> Q (.ref D) H') \/ (∃ (a:Addr) (ws:List Int) (cm:Option Int),vs = [.ref a] /\ Aq H a ws cm /\ (∀ w ∈ ws,intBits w <= 256) /\ intBits (qv cm) <= 256 /\ ws.length <= 8 /\ 3000 < B7 (qv cm) ws /\ ∀ H2,A6 H H2 -> E (.ref aB) none H2)
theorem ig {fd pQ iW:FuncData} (T:Txt K mg aX aV aY bJ cO bA cP aW bB bC cN bK bL bM cQ bN cR bD bE bO bG bH bP bQ bR bS bT cS cT bU cU cV bV cW bI bW bX bZ cA cB cC aZ cD cE cF cH cJ aC aA aE aB aD aI aK aL aM aO aP aN aF aJ aH aG) (F:Dn K "calls_by_standing" "calls_by_standing" Vg cQ fd) (pR:A9 P w K mg base (Ax P w) 3 bM pQ ["hall"] (Sg K aC aA aE aB aD aF)) (pS:Ah K pQ ["hall"] []) (jY:A9 P w K mg base (Ax P w) 5 bB iW ["hall","standing","who"] (P2 K)) (jZ:Ah K iW ["hall","standing","who"] []):A9 P w K mg base (Ax P w) 6 cQ fd ["hall"] (Y3 K aC aA aE aB aD aF):=by
 refine F.lZ Nn (fun vs H Q E h=>?_) (fun dB A outer s H vs Q E hr h=>?_)
 ·rcases h with ⟨a,ws,cm,rfl,ha,fB,uw,lR,gY,uq,hp,q⟩ | ⟨a,ws,cm,rfl,_,_,_,_,_,_⟩ <;> rfl
 ·obtain h:=h
  refine ⟨_,(A2 (Al (i:=1) Nn.nd rfl (Or.inl rfl) Kx) (A2 (Cu Xb rfl (Dc (C7 pR (hr.mono (by decide)) rfl T.JI T.k_x24 pS .nil E2 (A0 (pv 0) A3))) (Av (i:=2) Nn.nd rfl (Or.inl rfl)) (A2 (Al (i:=3) Nn.nd rfl (Or.inl rfl) Xe) (A2 (Cu Xb rfl (D4 (by rfl) T.eA (A0 (Ap (C6 K) (by rfl) T.eR PySem.boot_len (A0 (Au (Aw K) (pv 0) A7 (fun _ _=>rfl)) A3)) A3)) (Av (i:=4) Nn.nd rfl (Or.inl rfl)) (A2 (Al (i:=5) Nn.nd rfl (Or.inl rfl) (Ad jY (hr.mono (by decide)) rfl T.u7 T.k_x19 jZ .nil Ar (A0 (pv 0) (A0 (pv 2) (A0 (pv 4) A3))))) (A5 (Df (An (V5 K hr) C5 (pv 5) rfl) (A5 (Oj (Fl hr) (pv 3) (pv 4) (pv 5) rfl)) Ae)))) (A5 (Oj (Fl hr) (pv 1) (pv 2) (pv 3) rfl))))) (A5 (Af (pv 1))))),?_⟩
  rcases h with ⟨a,ws,cm,rfl,ha,fB,uw,lR,gY,uq,hp,q⟩ | ⟨a,ws,cm,rfl,ha,hb,lU,jM,hp,he⟩
  ·refine fun D hD=>?_
   have s1:A6 H (upd H D (.dT [])):=A6.upd hD
   have e1:(upd H D (.dT [])) D = some (.dT []):=A1
   generalize upd H D (.dT []) = H1 at s1 e1 ⊢
   refine ⟨_,rfl,E,fun _ _ _ z=>z,.inl ⟨a,ws,cm,rfl,ha.same s1,fB,uw,lR,gY,uq,hp,fun l us H2 hl s2 el VD=>⟨l,rfl,.inl ⟨⟨_,B5.of el⟩,?_⟩⟩⟩⟩
   have hlen:us.length <= 3000:=by
    have h1:=VD.1
    have h2:=No fB (show 0 <= qv cm by omega)
    omega
   have eC:=s1.trans s2
   have eD2:=s2 _ _ e1
   refine Dl (K:=K) (a:=l) (xs:=us) (fun i σ H'=>∃ (kvs:List ((List Int × Int) × V)) (v2 v3 v4 v5:Option V),σ = [some (.ref a),some (.ref D),v2,v3,v4,v5] /\ A6 H H' /\ LT H2 H' /\ H' D = some (.dT kvs) /\ Ch ws cm H' kvs /\ (∀ kv ∈ kvs,∀ c,kv.2 = .ref c -> H c = none) /\ kvs.length <= i /\ kvs.map (·.1) = (Bc ws (qv cm)).take i /\ K2 ws cm H' kvs)
    ⟨[],_,_,_,_,rfl,eC,⟨fun _ _ z=>z,fun _ _ z=>z⟩,eD2,⟨(fun kv z=>by cases z),List.Pairwise.nil,List.Pairwise.nil⟩,(fun kv z=>by cases z),Nat.le_refl _,rfl,(fun kv z=>by cases z)⟩ (fun i σ H' _ ⟨_,_,_,_,_,_,_,t,_⟩=>B5.of (t.1 _ _ el)) ?_ ?_
   ·rintro i u σ H' hu ⟨kvs,v2,v3,v4,v5,rfl,s',t',oG,mD,kZ,pT,iG,pU⟩
    have hi:=(List.getElem?_eq_some_iff.mp hu).1
    obtain ⟨z,hz,p,w,rfl,hz1,hz2⟩ := VD.get hu
    obtain ⟨m1,m2,m3,m4⟩ := Ir (List.mem_of_getElem? hz)
    have KD:Cc H' p z.1 z.2:=⟨w,t'.2 _ _ hz1,t'.2 _ _ hz2⟩
    refine fun c hc=>?_
    have s3:A6 H' (upd H' c (.dK [])):=A6.upd hc
    have e3:(upd H' c (.dK [])) c = some (.dK []):=A1
    generalize upd H' c (.dK []) = H3 at s3 e3 ⊢
    have KG:=s'.trans s3
    obtain ⟨wt,fF,fA⟩ := id (ha.same KG)
    refine ⟨_,rfl,a,_,_,_,rfl,rfl,.inr (Bw.of fF),rfl,wt,_,rfl,.inr (Bw.of fA),_,rfl,by omega,by rw [List.length_map]; omega,?_⟩
    refine Fu (n:=(ws.map V.int).length) (fun j σ H4=>∃ (cs:List (Dt × V)) (v4 v5:Option V),σ = [some (.ref a),some (.ref D),some (.ref p),some (.ref c),v4,v5] /\ A6 H' H4 /\ H4 c = some (.dK cs) /\ Fi ws cm z H4 cs /\ cs.length <= j /\ ∀ who:Nat,who < j -> none ∉ Bf ws z.1 cm z.2 who -> (Ao cs (.inl (who:Int))).isSome = true)
     ⟨[],_,_,rfl,s3,e3,(fun e z=>by cases z),Nat.le_refl _,(fun who z=>absurd z (Nat.not_lt_zero _))⟩ ?_ ?_
    ·rintro j σ H4 hj ⟨cs,v4,v5,rfl,s4,RF,t8,pV,RG⟩
     rw [List.length_map] at hj
     have GW:=s'.trans s4
     refine ⟨_,rfl,_,rfl,_,rfl,a,p,ws,z.1,cm,z.2,_,j,rfl,by omega,ha.same GW,KD.same s4,hj,m1,uq,fun L lB H5 hL s5 eL om=>?_⟩
     refine ⟨_,rfl,L,lB,.none,(Bf ws z.1 cm z.2 j).map ao,rfl,B5.of eL,Xp,Mx om,by decide,_,rfl,_,fun hb=>?_,fun hb=>?_,fun _ _ z=>z⟩
     ·rw [if_pos rfl,Nx] at hb
      have iI:none ∉ Bf ws z.1 cm z.2 j:=by simpa using hb
      have oK:=s5 _ _ RF
      refine ⟨_,rfl,_,rfl,_,rfl,c,_,rfl,.inl ⟨cs,.inl (j:Int),oK,congrArg V.int (Int.zero_add _),B3 (by omega),rfl⟩,?_⟩
      have t6:LT H5 (upd H5 c (.dK (C8 cs (.inl (j:Int)) (.ref L)))):=LT.dK oK
      refine ⟨C8 cs (.inl (j:Int)) (.ref L),_,_,rfl,(s4.trans s5).new hc,A1,?_,Nat.le_trans (Dm _ _ _) (by omega),fun who pG hn=>Rk ?_⟩
      ·have hold:Fi ws cm z (upd H5 c (.dK (C8 cs (.inl (j:Int)) (.ref L)))) cs:=t8.up ((LT.of s5).trans t6)
       intro e he
       rcases Xk he with y | y
       ·exact hold e y
       ·subst y
        exact ⟨j,L,lB,rfl,hj,iI,rfl,t6.1 _ _ eL,om.imp fun _ _ y=>Ga.up t6.2 y⟩
      ·rcases Nat.lt_or_ge who j with y | y
       ·exact .inl (RG who y hn)
       ·have e:who = j:=by omega
        rw [e]
        exact .inr rfl
     ·rw [if_pos rfl,Nx] at hb
      have VE:none ∈ Bf ws z.1 cm z.2 j:=by simpa using hb
      refine ⟨cs,_,_,rfl,s4.trans s5,s5 _ _ RF,t8.up (LT.of s5),by omega,fun who pG hn=>?_⟩
      rcases Nat.lt_or_ge who j with y | y
      ·exact RG who y hn
      ·have e:who = j:=by omega
       rw [e] at hn
       exact absurd VE hn
    rintro σ H4 ⟨cs,v4,v5,rfl,s4,RF,t8,pV,RG⟩
    rw [List.length_map] at pV
    have VF:=s4 _ _ oG
    refine ⟨_,rfl,_,rfl,_,rfl,D,_,rfl,Tx.t VF (show G3 H4 p z from KD.same s4) (Dh (by omega)),?_⟩
    have t5:LT H4 (upd H4 D (.dT (C8 kvs z (.ref c)))):=LT.dT VF
    have k5:∀ c' kP,H4 c' = some (.dK kP) -> (upd H4 D (.dT (C8 kvs z (.ref c)))) c' = some (.dK kP):=fun c' kP e=>by
     rw [A8 (Bb e VF (by intro z; cases z))]
     exact e
    have s05:=s'.trans s4
    have hnz:Ao kvs z = none:=by
     cases hv:Ao kvs z with
     | none=>rfl
     | some v =>
      have:=List.mem_map_of_mem (f:=(·.1)) (B8 hv)
      rw [iG] at this
      exact absurd this (Mr (Jb _ _) hz)
    have ep:C8 kvs z (.ref c) = kvs ++ [(z,.ref c)]:=Hf _ hnz
    have mR:Ch ws cm (upd H4 D (.dT (C8 kvs z (.ref c)))) kvs:=(mD.keep (LT.of s4) (fun c cs e=>s4 _ _ e)).keep t5 k5
    have wD:K2 ws cm (upd H4 D (.dT (C8 kvs z (.ref c)))) kvs:=(pU.keep mD (fun c cs e=>s4 _ _ e)).keep (mD.keep (LT.of s4) (fun c cs e=>s4 _ _ e)) k5
    have oK:=k5 _ _ RF
    have wF:=t8.up t5
    have sN:A6 H (upd H4 D (.dT (C8 kvs z (.ref c)))):=s05.new hD
    have tN:LT H2 (upd H4 D (.dT (C8 kvs z (.ref c)))):=(t'.trans (LT.of s4)).trans t5
    have eN:(upd H4 D (.dT (C8 kvs z (.ref c)))) D = some (.dT (C8 kvs z (.ref c))):=A1
    rw [ep] at mR wD oK wF sN tN eN ⊢
    generalize upd H4 D (.dT (kvs ++ [(z,.ref c)])) = H6 at mR wD oK wF sN tN eN ⊢
    have VG:∀ kv ∈ kvs,kv.2 ≠ .ref c:=fun kv dD e=>by
     obtain ⟨d,ds,e1,e2,_⟩ := mD.1 kv dD
     rw [e] at e1
     cases e1
     rw [hc] at e2
     cases e2
    refine ⟨kvs ++ [(z,.ref c)],_,_,_,_,rfl,sN,tN,eN,⟨Kq mR.1 ⟨c,cs,rfl,oK,by omega,wF⟩,?_,?_⟩,Kq kZ (fun c' e=>by cases e; exact s'.free hc),by rw [List.length_append,List.length_singleton]; omega,?_,?_⟩
    ·rw [List.map_append]
     refine Ee mR.2.1 (fun y=>?_)
     rw [iG] at y
     exact Mr (Jb _ _) hz y
    ·rw [List.map_append]
     refine Ee mR.2.2 (fun y=>?_)
     obtain ⟨kv,dD,e⟩ := List.mem_map.mp y
     exact VG kv dD e
    ·rw [List.map_append,iG,List.take_add_one,hz]
     rfl
    ·intro kv dD c' kP e1 e2
     rcases List.mem_append.mp dD with y | y
     ·exact wD kv y c' kP e1 e2
     ·cases List.mem_singleton.mp y
      cases e1
      rw [oK] at e2
      cases e2
      exact fun who hw hn=>RG who (by rw [List.length_map]; exact hw) hn
   rintro σ H' ⟨kvs,v2,v3,v4,v5,rfl,s',t',oG,mD,kZ,pT,iG,pU⟩
   rw [VD.1,List.take_length] at iG
   exact ⟨_,rfl,q D kvs H' hD s' oG mD iG pU kZ (by omega)⟩
  ·refine fun D hD=>?_
   have s1:A6 H (upd H D (.dT [])):=A6.upd hD
   generalize upd H D (.dT []) = H1 at s1 ⊢
   exact ⟨_,rfl,E,fun _ _ _ z=>z,.inr ⟨a,ws,cm,rfl,ha.same s1,hb,lU,jM,hp,fun H2 s2=>he H2 (s1.trans s2)⟩⟩
def Sr (K:PySem.W.Frag):Sp:=fun vs H Q _=>∃ (D:Addr) (kvs:List ((List Int × Int) × V)) (ws:List Int) (cm:Option Int),vs = [.ref D] /\ H D = some (.dT kvs) /\ Ch ws cm H kvs /\ kvs.length <= 3000 /\
 ∀ (W:Addr) (wv:List ((List Int × Int) × V)) (H':Hp),H W = none -> A6 H H' -> H' W = some (.dT wv) -> Em ws cm H kvs 48000 H' wv -> (∀ k who later,Ak H kvs k who -> some later ∈ Bf ws k.1 cm k.2 who -> C3 H' wv later k who) -> wv.length <= 48000 -> Q (.ref W) H'
theorem d7 {fd  : FuncData} (T:Txt K mg aX aV aY bJ cO bA cP aW bB bC cN bK bL bM cQ bN cR bD bE bO bG bH bP bQ bR bS bT cS cT bU cU cV bV cW bI bW bX bZ cA cB cC aZ cD cE cF cH cJ aC aA aE aB aD aI aK aL aM aO aP aN aF aJ aH aG) (F:Dn K "ways_to" "ways_to" Ni bN fd):A9 P w K mg base (Ax P w) 1 bN fd ["pending"] (Sr K):=by
 refine F.okN Gj (fun vs H Q E h=>?_) (fun dB A outer s H vs Q E hr h=>?_)
 ·rcases h with ⟨D,kvs,ws,cm,rfl,hD,lV,pT,q⟩ <;> rfl
 ·obtain ⟨D,kvs,ws,cm,rfl,hD,lV,pT,q⟩ := h
  refine ⟨_,(A2 (Al (i:=1) Gj.nd rfl (Or.inl rfl) Kx) (A2 (Ol (Cu PassesOwn.never rfl (L4 (pv 0)) (Hd K (n:=2) rfl (Cy (Av (i:=2) Gj.nd rfl (Or.inl rfl)) (Cy (Av (i:=3) Gj.nd rfl (Or.inl rfl)) He))) (A5 (Ol (Cu PassesOwn.never rfl (L4 (pv 3)) (Hd K (n:=2) rfl (Cy (Av (i:=4) Gj.nd rfl (Or.inl rfl)) (Cy (Av (i:=5) Gj.nd rfl (Or.inl rfl)) He))) (A5 (Cu PassesOwn.never rfl (Dc (pv 5)) (Av (i:=6) Gj.nd rfl (Or.inl rfl)) (A5 (Cf (E3 PySem.F.plainAttrs_list PySem.F.slot_list_append PySem.F.type_list_append Cq (V8 (Zb (Fl hr) (pv 1) (pv 6) (Ck A3) ⟨rfl,rfl,rfl,rfl⟩)) (A0 (D0 (A0 (pv 2) (A0 (pv 4) A3))) A3))))))))))) (A5 (Af (pv 1))))),?_⟩
  have mD:=lV.ok
  refine fun W hW=>?_
  have s1:A6 H (upd H W (.dT [])):=A6.upd hW
  have e1:(upd H W (.dT [])) W = some (.dT []):=A1
  generalize upd H W (.dT []) = H1 at s1 e1 ⊢
  have fK:=s1 _ _ hD
  have VH:W ≠ D:=(Aa hD hW).symm
  refine ⟨D,.dT kvs,trivial,fK,_,rfl,D,.dT kvs,rfl,trivial,fK,fun o=>?_⟩
  refine Mj (d:=D) (o:=o) (u := .dT kvs) (fun i σ H'=>∃ (wv:List ((List Int × Int) × V)) (v2 v3 v4 v5 v6:Option V),σ = [some (.ref D),some (.ref W),v2,v3,v4,v5,v6] /\ H' D = some (.eM o (.dT kvs)) /\ (∀ b ob,b ≠ D -> H b = some ob -> H' b = some ob) /\ H' W = some (.dT wv) /\ Em ws cm H kvs (16 * i) H' wv /\ wv.length <= 16 * i /\ ∀ k who later,(∃ v,(k,v) ∈ kvs.take i) -> Ak H kvs k who -> some later ∈ Bf ws k.1 cm k.2 who -> C3 H' wv later k who)
   ⟨[],_,_,_,_,_,rfl,A1,(fun b ob n e=>(A8 n).trans (s1 _ _ e)),(A8 VH).trans e1,⟨(fun kv z=>by cases z),List.Pairwise.nil⟩,Nat.zero_le _,(fun k who later z=>by obtain ⟨v,z⟩ := z; rw [List.take_zero] at z; cases z)⟩ (fun i σ H' _ ⟨_,_,_,_,_,_,_,e,_⟩=>e) ?_ ?_
  ·rintro i x y T σ H' hi hit ⟨wv,v2,v3,v4,v5,v6,rfl,oG,k',uy,oU,oS,VI⟩ hT
   have hi3:i < 3000:=Nat.lt_of_lt_of_le hi pT
   obtain ⟨kk,bb,dD,rfl,VJ⟩ := hit
   have iH:(kk,y) ∈ kvs:=List.mem_of_getElem? dD
   obtain ⟨kw,hkw⟩ := Jc iH
   obtain ⟨c,cs,ey,hc,pV,t8⟩ := lV.1 _ iH
   have VL:y = .ref c:=ey
   subst VL
   have s2:A6 H' (upd H' T (.tup [.ref bb,.ref c])):=A6.upd hT
   have e2:(upd H' T (.tup [.ref bb,.ref c])) T = some (.tup [.ref bb,.ref c]):=A1
   generalize upd H' T (.tup [.ref bb,.ref c]) = H2 at s2 e2 ⊢
   refine ⟨T,_,rfl,Bw.of e2,rfl,_,_,rfl,_,_,rfl,rfl,?_⟩
   have HY:c ≠ D:=Bb hc hD (by intro z; cases z)
   have VM:c ≠ W:=Aa hc hW
   have sP:=s2 _ _ (k' c _ HY hc)
   refine ⟨c,.dK cs,trivial,sP,_,rfl,c,.dK cs,rfl,trivial,sP,fun o2=>?_⟩
   have VN:LT H2 (upd H2 c (.eM o2 (.dK cs))):=LT.dK sP
   refine Mj (d:=c) (o:=o2) (u := .dK cs) (fun j σ H3=>∃ (wv:List ((List Int × Int) × V)) (v4 v5 v6:Option V),σ = [some (.ref D),some (.ref W),some (.ref bb),some (.ref c),v4,v5,v6] /\ H3 c = some (.eM o2 (.dK cs)) /\ H3 D = some (.eM o (.dT kvs)) /\ (∀ b ob,b ≠ D -> b ≠ c -> H b = some ob -> H3 b = some ob) /\ B1 H2 H3 /\ H3 W = some (.dT wv) /\ Em ws cm H kvs (16 * i + 2 * j) H3 wv /\ wv.length <= 16 * i + 2 * j /\ (∀ k who later,(∃ v,(k,v) ∈ kvs.take i) -> Ak H kvs k who -> some later ∈ Bf ws k.1 cm k.2 who -> C3 H3 wv later k who) /\ ∀ who later,(∃ e ∈ cs.take j,e.1 = .inl ((who:Nat):Int)) -> some later ∈ Bf ws kk.1 cm kk.2 who -> C3 H3 wv later kk who)
    ⟨wv,_,_,_,rfl,A1,(A8 HY.symm).trans (s2 _ _ oG),(fun b ob n1 n2 e=>(A8 n2).trans (s2 _ _ (k' b ob n1 e))),VN.2,(A8 VM.symm).trans (s2 _ _ uy),oU.up ((LT.of s2).trans VN) (by omega),by omega,(fun k who later z1 z2 z3=>(VI k who later z1 z2 z3).up ((LT.of s2).trans VN)),(fun who later z=>by obtain ⟨e,z,_⟩ := z; rw [List.take_zero] at z; cases z)⟩ (fun j σ H3 _ ⟨_,_,_,_,_,e,_⟩=>e) ?_ ?_
   ·rintro j x2 y2 T2 σ H3 hj VO ⟨VP,v4,v5,v6,rfl,KH,sC,k3,t3,VQ,wG,KI,VR,wH⟩ VS
    have hj8:j < 8:=Nat.lt_of_lt_of_le hj pV
    obtain ⟨kk2,KJ,rfl⟩ := VO
    obtain ⟨w2,l,lB,ei,RH,VT,el,hl,wI⟩ := t8 _ (List.mem_of_getElem? KJ)
    have tZ:lB.length <= 2:=by
     rw [wI.1]
     unfold Bf
     split <;> simp
    have ei':kk2 = .inl (w2:Int):=ei
    subst ei'
    have el':y2 = .ref l:=el
    subst el'
    have s4:A6 H3 (upd H3 T2 (.tup [kV (.inl (w2:Int)),.ref l])):=A6.upd VS
    have e4:(upd H3 T2 (.tup [kV (.inl (w2:Int)),.ref l])) T2 = some (.tup [kV (.inl (w2:Int)),.ref l]):=A1
    generalize upd H3 T2 (.tup [kV (.inl (w2:Int)),.ref l]) = H4 at s4 e4 ⊢
    refine ⟨T2,_,rfl,Bw.of e4,rfl,_,_,rfl,_,_,rfl,rfl,?_⟩
    have hlD:l ≠ D:=Bb hl hD (by intro z; cases z)
    have hlc:l ≠ c:=Bb hl hc (by intro z; cases z)
    refine ⟨_,rfl,l,rfl,.inl ⟨⟨_,B5.of (s4 _ _ (k3 l _ hlD hlc hl))⟩,?_⟩⟩
    refine Dl (K:=K) (a:=l) (xs:=lB) (fun m σ H5=>∃ (wv:List ((List Int × Int) × V)) (v6:Option V),σ = [some (.ref D),some (.ref W),some (.ref bb),some (.ref c),some (kV (.inl (w2:Int))),some (.ref l),v6] /\ H5 c = some (.eM o2 (.dK cs)) /\ H5 D = some (.eM o (.dT kvs)) /\ (∀ b ob,b ≠ D -> b ≠ c -> H b = some ob -> H5 b = some ob) /\ B1 H2 H5 /\ H5 W = some (.dT wv) /\ Em ws cm H kvs (16 * i + 2 * j + m) H5 wv /\ wv.length <= 16 * i + 2 * j + m /\ (∀ k who later,(∃ v,(k,v) ∈ kvs.take i) -> Ak H kvs k who -> some later ∈ Bf ws k.1 cm k.2 who -> C3 H5 wv later k who) /\ (∀ who later,(∃ e ∈ cs.take j,e.1 = .inl ((who:Nat):Int)) -> some later ∈ Bf ws kk.1 cm kk.2 who -> C3 H5 wv later kk who) /\ ∀ later,some later ∈ (Bf ws kk.1 cm kk.2 w2).take m -> C3 H5 wv later kk w2)
     ⟨VP,_,rfl,s4 _ _ KH,s4 _ _ sC,(fun b ob n1 n2 e=>s4 _ _ (k3 b ob n1 n2 e)),t3.trans (B1.of s4),s4 _ _ VQ,wG.up (LT.of s4) (Nat.le_refl _),KI,(fun k who later z1 z2 z3=>(VR k who later z1 z2 z3).up (LT.of s4)),(fun who later z1 z2=>(wH who later z1 z2).up (LT.of s4)),(fun later z=>by rw [List.take_zero] at z; cases z)⟩ (fun m σ H5 _ ⟨_,_,_,_,_,k5,_⟩=>B5.of (k5 l _ hlD hlc hl)) ?_ ?_
    ·rintro m u σ H5 hu ⟨wJ,v6,rfl,oK,pW,k5,t5,RI,mS,VU,RJ,t9,tf⟩
     have hm2:m < 2:=Nat.lt_of_lt_of_le (List.getElem?_eq_some_iff.mp hu).1 tZ
     obtain ⟨r0,uz,mB⟩ := wI.get hu
     obtain ⟨lk,er⟩ : ∃ lk,r0 = some lk:=by
      cases r0 with
      | none=>exact absurd (List.mem_of_getElem? uz) VT
      | some r=>exact ⟨r,rfl⟩
     subst er
     obtain ⟨lb,rfl,tj⟩ := mB
     have GX:G3 H lb lk:=tj
     have tH5:B1 H H5:=fun b xs e=>k5 b _ (Bb e hD (by intro z; cases z)) (Bb e hc (by intro z; cases z)) e
     have VV:=GX.up tH5
     have KL:∀ E,H5 E = none -> H E = none:=fun E hE=>by
      cases hHE:H E with
      | none=>rfl
      | some ob =>
       by_cases z1:E = D
       ·rw [z1,pW] at hE
        cases hE
       by_cases z2:E = c
       ·rw [z2,oK] at hE
        cases hE
       rw [k5 E ob z1 z2 hHE] at hE
       cases hE
     refine ⟨(fun v H7=>∃ (tm:List ((List Int × Int) × V)) (l7:Addr) (wK:List V),v = .ref l7 /\ Ao tm lk = some (.ref l7) /\ H l7 = none /\ H7 l7 = some (.lst wK) /\ wK.length <= 16 * i + 2 * j + m /\ (∀ u ∈ wK,Nw ws cm kvs H7 lk u) /\ H7 c = some (.eM o2 (.dK cs)) /\ H7 D = some (.eM o (.dT kvs)) /\ (∀ b ob,b ≠ D -> b ≠ c -> H b = some ob -> H7 b = some ob) /\ B1 H5 H7 /\ H7 W = some (.dT tm) /\ Em ws cm H kvs (16 * i + 2 * j + m) H7 tm /\ tm.length <= 16 * i + 2 * j + m + 1 /\ (∀ k who later,(∃ v,(k,v) ∈ kvs.take i) -> Ak H kvs k who -> some later ∈ Bf ws k.1 cm k.2 who -> C3 H7 tm later k who) /\ (∀ who later,(∃ e ∈ cs.take j,e.1 = .inl ((who:Nat):Int)) -> some later ∈ Bf ws kk.1 cm kk.2 who -> C3 H7 tm later kk who) /\ (∀ later,some later ∈ (Bf ws kk.1 cm kk.2 w2).take m -> C3 H7 tm later kk w2)),⟨_,rfl,W,rfl,.inr ⟨wJ,.inl RI⟩,_,rfl,Bi,fun E hE=>?_⟩,?_⟩
     ·have s6:A6 H5 (upd H5 E (.lst [])):=A6.upd hE
      have e6:(upd H5 E (.lst [])) E = some (.lst []):=A1
      generalize upd H5 E (.lst []) = H6 at s6 e6 ⊢
      have VW:=s6 _ _ RI
      refine ⟨wJ,lk,lb,rfl,VV.up (B1.of s6),VW,Dh (by omega),fun v hv=>?_,fun hv=>?_⟩
      ·obtain ⟨l7,wK,e7,h0,h1,h2,h3⟩ := mS.1 _ (B8 hv)
       have e7':v = .ref l7:=e7
       exact ⟨wJ,l7,wK,e7,by rw [hv,e7'],h0,s6 _ _ h1,h2,(fun u hu=>(h3 u hu).up (B1.of s6)),s6 _ _ oK,s6 _ _ pW,(fun b ob n1 n2 e=>s6 _ _ (k5 b ob n1 n2 e)),B1.of s6,VW,mS.up (LT.of s6) (Nat.le_refl _),by omega,(fun k who later z1 z2 z3=>(RJ k who later z1 z2 z3).up (LT.of s6)),(fun who later z1 z2=>(t9 who later z1 z2).up (LT.of s6)),(fun later z=>(tf later z).up (LT.of s6))⟩
      ·have t7:LT H6 (upd H6 W (.dT (C8 wJ lk (.ref E)))):=LT.dT VW
       have nE:=KL E hE
       have RK:=(LT.of s6).trans t7
       refine ⟨C8 wJ lk (.ref E),E,[],rfl,by rw [Hl,if_pos rfl],nE,t7.1 _ _ e6,Nat.zero_le _,(fun u hu=>by cases hu),(A8 VM).trans (s6 _ _ oK),(A8 VH.symm).trans (s6 _ _ pW),(fun b ob n1 n2 e=>(A8 (Aa e hW)).trans (s6 _ _ (k5 b ob n1 n2 e))),(B1.of s6).trans t7.2,A1,?_,Nat.le_trans (Dm _ _ _) (by omega),(fun k who later z1 z2 z3=>((RJ k who later z1 z2 z3).up RK).put hv),(fun who later z1 z2=>((t9 who later z1 z2).up RK).put hv),(fun later z=>((tf later z).up RK).put hv)⟩
       refine ⟨fun kv dD=>?_,?_⟩
       ·rcases Xk dD with y | y
        ·exact (mS.up RK (Nat.le_refl _)).1 kv y
        ·subst y
         exact ⟨E,[],rfl,nE,t7.1 _ _ e6,Nat.zero_le _,fun u hu=>by cases hu⟩
       ·rw [Hf _ hv,List.map_append]
        refine Ee mS.2 (fun y=>?_)
        obtain ⟨kv,dD,e⟩ := List.mem_map.mp y
        obtain ⟨l9,us9,e9,_,h9,_⟩ := mS.1 kv dD
        have e':kv.2 = .ref E:=e
        rw [e'] at e9
        cases e9
        rw [hE] at h9
        cases h9
     rintro v H7 ⟨tm,l7,wK,rfl,hv7,n7,VX,VY,KN,hc7,hD7,k7,t7,hW7,VZ,hwl7,hs7,WA,WB⟩
     refine ⟨.inl ⟨rfl,_,B5.of VX⟩,_,rfl,_,rfl,Bi,fun T3 hT3=>?_⟩
     have s8:A6 H7 (upd H7 T3 (.tup [.ref bb,kV (.inl (w2:Int))])):=A6.upd hT3
     have e8:(upd H7 T3 (.tup [.ref bb,kV (.inl (w2:Int))])) T3 = some (.tup [.ref bb,kV (.inl (w2:Int))]):=A1
     generalize upd H7 T3 (.tup [.ref bb,kV (.inl (w2:Int))]) = H8 at s8 e8 ⊢
     have jM:=s8 _ _ VX
     refine ⟨l7,_,_,rfl,rfl,jM,Dh (by omega),?_⟩
     have WC:l7 ≠ D:=(Aa hD n7).symm
     have WD:l7 ≠ c:=(Aa hc n7).symm
     have WE:l7 ≠ W:=Bb VX hW7 (by intro z; cases z)
     have KO:G3 H8 bb kk:=(((VJ.up (B1.of s2)).up t5).up t7).up (B1.of s8)
     have WG:Nw ws cm kvs H8 lk (.ref T3):=⟨T3,bb,w2,kk,rfl,e8,KO,⟨kw,hkw⟩,List.mem_of_getElem? uz⟩
     refine ⟨tm,_,rfl,(A8 WD.symm).trans (s8 _ _ hc7),(A8 WC.symm).trans (s8 _ _ hD7),(fun b ob n1 n2 e=>(A8 (Aa e n7)).trans (s8 _ _ (k7 b ob n1 n2 e))),((t5.trans t7).trans (B1.of s8)).trans (B1.lst jM),(A8 WE.symm).trans (s8 _ _ hW7),?_,by omega,(fun k who later z1 z2 z3=>((hs7 k who later z1 z2 z3).up (LT.of s8)).app jM),(fun who later z1 z2=>((WA who later z1 z2).up (LT.of s8)).app jM),(fun later z=>?_)⟩
     ·exact Em.app (VZ.up (LT.of s8) (Nat.le_refl _)) (B8 hv7) jM VY (fun u hu=>(KN u hu).up (B1.of s8)) WG
     ·rw [List.take_add_one,uz] at z
      rcases List.mem_append.mp z with y | y
      ·exact ((WB later y).up (LT.of s8)).app jM
      ·have ey:later = lk:=by simpa using y
       subst ey
       have tt:B1 H8 (upd H8 l7 (.lst (wK ++ [.ref T3]))):=B1.lst jM
       exact ⟨l7,_,T3,bb,hv7,A1,by simp,tt _ _ e8,KO.up tt⟩
    rintro σ H5 ⟨wJ,v6,rfl,oK,pW,k5,t5,RI,mS,VU,RJ,t9,tf⟩
    refine ⟨wJ,_,_,_,rfl,oK,pW,k5,t5,RI,mS.up ⟨fun _ _ z=>z,fun _ _ z=>z⟩ (by omega),by omega,RJ,fun who later z1 z2=>?_⟩
    obtain ⟨e,he,ew⟩ := z1
    rw [List.take_add_one,KJ] at he
    rcases List.mem_append.mp he with y | y
    ·exact t9 who later ⟨e,y,ew⟩ z2
    ·have ey:e = (.inl (w2:Int),.ref l):=by simpa using y
     subst ey
     have ew2:(w2:Int) = (who:Int):=Sum.inl.inj ew
     have ew3:w2 = who:=by omega
     subst ew3
     refine tf later ?_
     rw [wI.1,List.take_length]
     exact z2
   rintro σ H3 ⟨VP,v4,v5,v6,rfl,KH,sC,k3,t3,VQ,wG,KI,VR,wH⟩
   have hll:D6 (.dK cs) <= 8:=pV
   have tz:LT H3 (upd H3 c (.dK cs)):=⟨fun b xs e=>by rw [A8 (Bb e KH (by intro z; cases z))]; exact e,fun b xs e=>by rw [A8 (Bb e KH (by intro z; cases z))]; exact e⟩
   refine ⟨o2,KH,VP,_,_,_,_,_,rfl,(A8 HY.symm).trans sC,(fun b ob n1 e=>?_),(A8 VM.symm).trans VQ,wG.up tz (show 16 * i + 2 * D6 (.dK cs) <= 16 * (i + 1) by omega),by omega,fun k who later z1 z2 z3=>?_⟩
   ·by_cases z:b = c
    ·subst z
     rw [hc] at e
     cases e
     exact A1
    ·exact (A8 z).trans (k3 b ob n1 z e)
   ·obtain ⟨v,hv⟩ := z1
    rw [List.take_add_one,dD] at hv
    rcases List.mem_append.mp hv with y | y
    ·exact (VR k who later ⟨v,y⟩ z2 z3).up tz
    ·have ey:(k,v) = (kk,.ref c):=by simpa using y
     cases ey
     obtain ⟨c',kP,g1,g2,g3⟩ := z2
     rw [D1 lV.2.1 iH] at g1
     cases g1
     rw [hc] at g2
     cases g2
     obtain ⟨w',pq⟩ := Option.isSome_iff_exists.mp g3
     refine (wH who later ⟨(.inl (who:Int),w'),?_,rfl⟩ z3).up tz
     show _ ∈ cs.take cs.length
     rw [List.take_length]
     exact B8 pq
  rintro σ H' ⟨wv,v2,v3,v4,v5,v6,rfl,oG,k',uy,oU,oS,VI⟩
  have WH:D6 (.dT kvs) <= 3000:=pT
  have tD:LT H' (upd H' D (.dT kvs)):=⟨fun b xs e=>by rw [A8 (Bb e oG (by intro z; cases z))]; exact e,fun b xs e=>by rw [A8 (Bb e oG (by intro z; cases z))]; exact e⟩
  refine ⟨o,oG,_,rfl,q W wv _ hW (fun b ob e=>?_) ((A8 VH).trans uy) (oU.up tD (show 16 * D6 (.dT kvs) <= 48000 by omega)) (fun k who later z2 z3=>?_) (by omega)⟩
  ·by_cases z:b = D
   ·subst z
    rw [hD] at e
    cases e
    exact A1
   ·exact (A8 z).trans (k' b ob z e)
  ·obtain ⟨c',kP,g1,g2,g3⟩ := id z2
   refine (VI k who later ⟨.ref c',?_⟩ z2 z3).up tD
   show _ ∈ kvs.take kvs.length
   rw [List.take_length]
   exact B8 g1
def Y1 (K:PySem.W.Frag):Sp:=fun vs H Q _=>∃ (D W R:Addr) (kvs wv:List ((List Int × Int) × V)) (rs:List V) (eF:List (List Int × Int)) (H0:Hp) (ws:List Int) (cm:Option Int),vs = [.ref D,.ref W,.ref R] /\ H D = some (.dT kvs) /\ Ch ws cm H kvs /\ H W = some (.dT wv) /\ Em ws cm H0 kvs 48000 H wv /\ (∀ k who later,Ak H kvs k who -> some later ∈ Bf ws k.1 cm k.2 who -> C3 H wv later k who) /\ H R = some (.lst rs) /\ B0 (Iw H) eF rs /\ C9 H kvs <= 24000 /\
 ∀ (B:Addr) (bs:List V) (beta:List (List Int × Int)) (H':Hp),H B = none -> E8 kvs H H' -> Ch ws cm H' kvs -> H' B = some (.lst bs) -> B0 (Iw H') beta bs -> C9 H' kvs + bs.length <= C9 H kvs ->
  (∀ k who,Ak H' kvs k who ↔ (Ak H kvs k who /\ ∀ later ∈ eF,some later ∉ Bf ws k.1 cm k.2 who)) -> (∀ k,k ∈ beta ↔ ((∃ who,Ak H kvs k who) /\ ∀ who,¬ Ak H' kvs k who)) -> Q (.ref B) H'
theorem ib {fd  : FuncData} (T:Txt K mg aX aV aY bJ cO bA cP aW bB bC cN bK bL bM cQ bN cR bD bE bO bG bH bP bQ bR bS bT cS cT bU cU cV bV cW bI bW bX bZ cA cB cC aZ cD cE cF cH cJ aC aA aE aB aD aI aK aL aM aO aP aN aF aJ aH aG) (F:Dn K "without_calls_left" "without_calls_left" Ve cR fd):A9 P w K mg base (Ax P w) 1 cR fd ["pending","ways","ranked"] (Y1 K):=by
 refine F.okN Nm (fun vs H Q E h=>?_) (fun dB A outer s H vs Q E hr h=>?_)
 ·rcases h with ⟨D,W,R,kvs,wv,rs,eF,H0,ws,cm,rfl,hD,lV,hW,oU,lM,hR,uA,hle,q⟩ <;> rfl
 ·obtain ⟨D,W,R,kvs,wv,rs,eF,H0,ws,cm,rfl,hD,lV,hW,oU,lM,hR,uA,hle,q⟩ := h
  refine ⟨_,(A2 (Al (i:=3) Nm.nd rfl (Or.inl rfl) (Ck A3)) (A2 (Cu PassesOwn.never rfl (Dc (pv 2)) (Av (i:=4) Nm.nd rfl (Or.inl rfl)) (A5 (Cu PassesOwn.never rfl (Dc (V8 (Xd (Fl hr) (pv 1) (pv 4) (Ck A3) ⟨rfl,rfl,rfl,rfl⟩))) (Hd K (n:=2) rfl (Cy (Av (i:=5) Nm.nd rfl (Or.inl rfl)) (Cy (Av (i:=6) Nm.nd rfl (Or.inl rfl)) He))) (A2 (Al (i:=7) Nm.nd rfl (Or.inl rfl) (Fv (Fl hr) (pv 0) (pv 5) (fun _ _=>rfl))) (A5 (Df (Ih (Ig (Fl hr) (pv 6) (pv 7)) rfl) (A2 (Cf (Xf (pv 7) (pv 6) ⟨rfl,rfl,rfl,rfl⟩)) (A5 (Df (D9 (To (pv 7))) (A5 (Cf (E3 PySem.F.plainAttrs_list PySem.F.slot_list_append PySem.F.type_list_append Cq (pv 3) (A0 (pv 5) A3)))) Ae))) Ae)))))) (A5 (Af (pv 3))))),?_⟩
  have mD:=lV.ok
  refine ⟨Bi,fun B hB=>?_⟩
  have s1:A6 H (upd H B (.lst [])):=A6.upd hB
  have e1:(upd H B (.lst [])) B = some (.lst []):=A1
  generalize upd H B (.lst []) = H1 at s1 e1 ⊢
  have c1:∀ c cs,H c = some (.dK cs) -> H1 c = some (.dK cs):=fun c cs e=>s1 _ _ e
  refine ⟨_,rfl,R,rfl,.inl ⟨⟨_,B5.of (s1 _ _ hR)⟩,?_⟩⟩
  refine Dl (K:=K) (a:=R) (xs:=rs) (fun i σ H'=>∃ (bs:List V) (beta:List (List Int × Int)) (v4 v5 v6 v7:Option V),σ = [some (.ref D),some (.ref W),some (.ref R),some (.ref B),v4,v5,v6,v7] /\ E8 kvs H H' /\ Ch ws cm H' kvs /\ H' B = some (.lst bs) /\ B0 (Iw H') beta bs /\ C9 H' kvs + bs.length <= C9 H kvs /\ Tz B H' kvs /\ (∀ k who,Ak H' kvs k who -> Ak H kvs k who) /\ (∀ k who,Ak H kvs k who -> (∀ later ∈ eF.take i,some later ∉ Bf ws k.1 cm k.2 who) -> Ak H' kvs k who) /\ (∀ later ∈ eF.take i,∀ k who,some later ∈ Bf ws k.1 cm k.2 who -> ¬ Ak H' kvs k who) /\ (∀ k,k ∈ beta ↔ ((∃ who,Ak H kvs k who) /\ ∀ who,¬ Ak H' kvs k who)))
   ⟨[],[],_,_,_,_,rfl,E8.of s1,lV.keep (LT.of s1) c1,e1,B0.nil,by rw [Dz mD c1]; exact Nat.le_refl _,(Tz.start mD hB).keep mD c1,(fun k who z=>(Ak.keep lV c1).mp z),(fun k who z _=>(Ak.keep lV c1).mpr z),(fun later z=>by rw [List.take_zero] at z; cases z),fun k=>⟨(fun z=>by cases z),fun z=>?_⟩⟩ (fun i σ H' _ ⟨_,_,_,_,_,_,_,ch,_⟩=>B5.of (ch.keep mD hR (fun cs z=>nomatch z))) ?_ ?_
  ·obtain ⟨⟨who,z1⟩,z2⟩ := z
   exact absurd ((Ak.keep lV c1).mpr z1) (z2 who)
  ·rintro i u σ H' hu ⟨bs,beta,v4,v5,v6,v7,rfl,ch,gZ,RL,WI,WJ,nb,l1,l2,l3,l4⟩
   obtain ⟨lk,tj,lb,lu,rfl,WK,WL⟩ := uA.get hu
   have GX:G3 H lb lk:=⟨lu,WK,WL⟩
   have tE:=gZ.ok
   have lt':=ch.lt mD
   have uy:=ch.keep mD hW (fun cs z=>nomatch z)
   have WM:=oU.up lt' (Nat.le_refl _)
   refine ⟨(fun v H7=>∃ (la:Addr) (lB:List V),v = .ref la /\ H7 la = some (.lst lB) /\ la ≠ B /\ (∀ u ∈ lB,Nw ws cm kvs H7 lk u) /\ (∀ lx,Ao wv lk = some (.ref lx) -> lx = la) /\ A6 H' H7),⟨_,rfl,W,rfl,.inr ⟨wv,.inl uy⟩,_,rfl,Bi,fun E hE=>?_⟩,?_⟩
   ·have s6:A6 H' (upd H' E (.lst [])):=A6.upd hE
    refine ⟨_,D5.t (s6 _ _ uy) ((GX.up lt'.2).up (B1.of s6)),?_⟩
    cases hv:Ao wv lk with
    | none=>exact ⟨E,[],rfl,A1,(Aa RL hE).symm,(fun u hu=>by cases hu),(fun lx z=>by cases z),s6⟩
    | some v =>
     obtain ⟨la,lB,e2,h0,h1,h2,h3⟩ := oU.1 _ (B8 hv)
     obtain ⟨lc,us3,e3,_,g1,_,g3⟩ := WM.1 _ (B8 hv)
     have e23:V.ref la = V.ref lc:=e2.symm.trans e3
     cases e23
     have e3':v = .ref la:=e3
     exact ⟨la,us3,e3,s6 _ _ g1,Aa h1 hB,(fun u hu=>(g3 u hu).up (B1.of s6)),(fun lx z=>by rw [e3'] at z; cases z; rfl),s6⟩
   rintro v H7 ⟨la,lB,rfl,WN,WO,WQ,hlx,s7⟩
   refine ⟨la,rfl,.inl ⟨⟨_,B5.of WN⟩,?_⟩⟩
   have c7:∀ c cs,H' c = some (.dK cs) -> H7 c = some (.dK cs):=fun c cs e=>s7 _ _ e
   have WR:=gZ.keep (LT.of s7) c7
   have lt7:LT H H7:=lt'.trans (LT.of s7)
   refine Dl (K:=K) (a:=la) (xs:=lB) (fun j σ H8=>∃ (bs:List V) (beta:List (List Int × Int)) (v5 v6 v7:Option V),σ = [some (.ref D),some (.ref W),some (.ref R),some (.ref B),some (.ref lb),v5,v6,v7] /\ E8 kvs H H8 /\ Ch ws cm H8 kvs /\ H8 B = some (.lst bs) /\ B0 (Iw H8) beta bs /\ C9 H8 kvs + bs.length <= C9 H kvs /\ Tz B H8 kvs /\ (∀ k who,Ak H8 kvs k who -> Ak H kvs k who) /\ (∀ k who,Ak H kvs k who -> (∀ later ∈ eF.take (i + 1),some later ∉ Bf ws k.1 cm k.2 who) -> Ak H8 kvs k who) /\ (∀ later ∈ eF.take i,∀ k who,some later ∈ Bf ws k.1 cm k.2 who -> ¬ Ak H8 kvs k who) /\ (∀ k,k ∈ beta ↔ ((∃ who,Ak H kvs k who) /\ ∀ who,¬ Ak H8 kvs k who)) /\ B1 H7 H8 /\ H8 la = some (.lst lB) /\ (∀ k who,Ak H8 kvs k who -> Ak H7 kvs k who) /\ ∀ t b who k,V.ref t ∈ lB.take j -> H7 t = some (.tup [.ref b,.int ((who:Nat):Int)]) -> G3 H7 b k -> ¬ Ak H8 kvs k who)
    ⟨bs,beta,_,_,_,rfl,ch.trans (E8.of s7),WR,s7 _ _ RL,WI.imp (fun _ _ z=>Iw.up (B1.of s7) z),by rw [Dz tE c7]; exact WJ,nb.keep tE c7,(fun k who z=>l1 k who ((Ak.keep gZ c7).mp z)),(fun k who z1 z2=>(Ak.keep gZ c7).mpr (l2 k who z1 fun later hl=>z2 later (List.take_subset_take_left _ (Nat.le_succ i) hl))),(fun later hl k who z1 z2=>l3 later hl k who z1 ((Ak.keep gZ c7).mp z2)),(fun k=>(l4 k).trans ⟨fun z=>⟨z.1,fun who y=>z.2 who ((Ak.keep gZ c7).mp y)⟩,fun z=>⟨z.1,fun who y=>z.2 who ((Ak.keep gZ c7).mpr y)⟩⟩),(fun _ _ z=>z),WN,(fun k who z=>z),(fun t b who k z=>by rw [List.take_zero] at z; cases z)⟩ (fun j σ H8 _ ⟨_,_,_,_,_,_,_,_,_,_,_,_,_,_,_,_,_,e,_⟩=>B5.of e) ?_ ?_
   ·rintro j u σ H8 hu2 ⟨sD,kA,v5,v6,v7,rfl,GY,mT,RM,pX,wL,RN,m1,m2,m3,m4,GZ,tH,m5,m6⟩
    have hpo8:=mT.ok
    obtain ⟨t,b,who,k,rfl,ht7,hb7,⟨v,dD⟩,WS⟩ := WQ u (List.mem_of_getElem? hu2)
    have ht:=GZ _ _ ht7
    have hb:=hb7.up GZ
    refine ⟨t,_,rfl,Bw.of ht,rfl,_,_,rfl,_,_,rfl,rfl,?_⟩
    have hD8:=GY.keep mD hD (fun cs z=>nomatch z)
    have iH:=B8 dD
    obtain ⟨c,cs,ev,hc,pV,t8⟩ := mT.1 _ iH
    have ev':v = .ref c:=ev
    subst ev'
    have taken:∀ (HX:Hp),(∀ k' cK,Ak HX kvs k' cK -> Ak H8 kvs k' cK) -> ¬ Ak HX kvs k who -> ∀ t' b' cK k',V.ref t' ∈ lB.take (j + 1) -> H7 t' = some (.tup [.ref b',.int ((cK:Nat):Int)]) -> G3 H7 b' k' -> ¬ Ak HX kvs k' cK:=fun HX mC gO t' b' cK k' z1 z2 z3 z4=>by
     rw [List.take_add_one,hu2] at z1
     rcases List.mem_append.mp z1 with y | y
     ·exact m6 t' b' cK k' y z2 z3 (mC _ _ z4)
     ·have e1:t' = t:=by simpa using y
      subst e1
      rw [ht7] at z2
      cases z2
      obtain ⟨u1,f1,f2⟩ := hb7
      obtain ⟨u2,g1,g2⟩ := z3
      rw [f1] at g1
      injection g1 with g1
      injection g1 with g1
      injection g1 with WT KP
      injection KP with KP
      injection WT with WT
      injection KP with KP
      subst WT
      rw [f2] at g2
      have ek:k = k':=by
       have h1:k.1 = k'.1:=by
        have:=Option.some.inj g2
        injection this with this
        exact J1 this
       exact Prod.ext h1 KP
      subst ek
      exact gO z4
    refine ⟨_,rfl,_,rfl,D,.ref c,rfl,(by rw [<- dD]; exact D5.t hD8 hb),?_⟩
    refine ⟨_,rfl,_,rfl,c,_,rfl,D5.k (k := .inl (who:Int)) hc,_,rfl,_,fun vV=>?_,fun vV=>?_,fun _ _ z=>z⟩
    ·obtain ⟨w',hw⟩ := Option.isSome_iff_exists.mp vV
     have uB:Ak H8 kvs k who:=⟨c,cs,dD,hc,by rw [hw]; rfl⟩
     refine ⟨_,rfl,c,rfl,.inl ⟨cs,.inl hc⟩,_,rfl,cs,.inl (who:Int),w',hc,rfl,hw,?_⟩
     have WU:E8 kvs H8 (upd H8 c (.dK (Bm cs (.inl (who:Int))))):=E8.pop iH rfl
     have pY:Ch ws cm (upd H8 c (.dK (Bm cs (.inl (who:Int))))) kvs:=mT.pop hc
     have tJ:LT H8 (upd H8 c (.dK (Bm cs (.inl (who:Int))))):=LT.dK hc
     have RO:(upd H8 c (.dK (Bm cs (.inl (who:Int))))) c = some (.dK (Bm cs (.inl (who:Int)))):=A1
     have RP:Tz B (upd H8 c (.dK (Bm cs (.inl (who:Int))))) kvs:=RN.pop hc
     have hl9:=(Mo hc (Yp hw) (kvs:=kvs)).2 ⟨_,iH,rfl⟩
     have wM:∀ k' cK,Ak (upd H8 c (.dK (Bm cs (.inl (who:Int))))) kvs k' cK ↔ Ak H8 kvs k' cK /\ ¬ (k' = k /\ cK = who):=fun k' cK=>Ak.pop mT dD hc
     generalize upd H8 c (.dK (Bm cs (.inl (who:Int)))) = H9 at WU pY tJ RO RP hl9 wM ⊢
     have KQ:=pY.ok
     have KR:=tJ.1 _ _ RM
     have hb9:=hb.up tJ.2
     have n1:∀ k' cK,Ak H9 kvs k' cK -> Ak H kvs k' cK:=fun k' cK z=>m1 _ _ ((wM k' cK).mp z).1
     have n2:∀ k' cK,Ak H kvs k' cK -> (∀ later ∈ eF.take (i + 1),some later ∉ Bf ws k'.1 cm k'.2 cK) -> Ak H9 kvs k' cK:=fun k' cK z1 z2=>(wM k' cK).mpr ⟨m2 _ _ z1 z2,fun e=>by
      refine z2 lk ?_ (by rw [e.1,e.2]; exact WS)
      rw [List.take_add_one,tj]
      simp⟩
     have n3:∀ later ∈ eF.take i,∀ k' cK,some later ∈ Bf ws k'.1 cm k'.2 cK -> ¬ Ak H9 kvs k' cK:=fun later hl k' cK z1 z2=>m3 later hl k' cK z1 ((wM k' cK).mp z2).1
     have n5:∀ k' cK,Ak H9 kvs k' cK -> Ak H8 kvs k' cK:=fun k' cK z=>((wM k' cK).mp z).1
     have n6:=taken H9 n5 (fun z=>((wM k who).mp z).2 ⟨rfl,rfl⟩)
     have other:∀ k',k' ≠ k -> ((∀ cK,¬ Ak H9 kvs k' cK) ↔ ∀ cK,¬ Ak H8 kvs k' cK):=fun k' kY=>⟨fun z cK y=>z cK ((wM k' cK).mpr ⟨y,fun e=>kY e.1⟩),fun z cK y=>z cK (n5 _ _ y)⟩
     have hkb:k ∉ kA:=fun z=>((m4 k).mp z).2 who uB
     refine ⟨_,rfl,c,_,rfl,.inl RO,_,fun he=>?_,fun he=>?_,fun _ _ z=>z⟩
     ·have pZ : Bm cs (.inl (who : Int)) = [] := by
       have:(Bm cs (.inl (who:Int))).isEmpty = true:=by simpa using he
       exact List.isEmpty_iff.mp this
      have KS:∀ cK,¬ Ak H9 kvs k cK:=fun cK z=>by
       obtain ⟨c',kP,g1,g2,g3⟩ := z
       rw [dD] at g1
       cases g1
       rw [RO] at g2
       cases g2
       rw [pZ] at g3
       cases g3
      refine ⟨_,rfl,.inl ⟨rfl,_,B5.of KR⟩,_,rfl,B,_,_,rfl,rfl,KR,Dh (by omega),?_⟩
      have KU:B1 H9 (upd H9 B (.lst (sD ++ [.ref b]))):=B1.lst KR
      have RQ:∀ c' kP,H9 c' = some (.dK kP) -> (upd H9 B (.lst (sD ++ [.ref b]))) c' = some (.dK kP):=fun c' kP e=>by
       rw [A8 (Bb e KR (by intro z; cases z))]
       exact e
      have kl:∀ x xs,x ≠ B -> H9 x = some (.lst xs) -> (upd H9 B (.lst (sD ++ [.ref b]))) x = some (.lst xs):=fun x xs n e=>(A8 n).trans e
      have mU:∀ k' cK,Ak (upd H9 B (.lst (sD ++ [.ref b]))) kvs k' cK ↔ Ak H9 kvs k' cK:=fun k' cK=>Ak.keep pY RQ
      obtain ⟨ub,WV,WW⟩ := hb9
      refine ⟨sD ++ [.ref b],kA ++ [k],_,_,_,rfl,(GY.trans WU).new hB,pY.JY RP KU kl RQ,A1,(pX.imp fun _ _ z=>Iw.up KU (Iw.up tJ.2 z)).append (B0.one ⟨b,ub,rfl,KU _ _ WV,KU _ _ WW⟩),?_,RP.keep KQ RQ,(fun k' cK z=>n1 _ _ ((mU k' cK).mp z)),(fun k' cK z1 z2=>(mU k' cK).mpr (n2 _ _ z1 z2)),(fun later hl k' cK z1 z2=>n3 later hl k' cK z1 ((mU k' cK).mp z2)),(fun k'=>?_),(GZ.trans tJ.2).trans KU,kl _ _ WO (tJ.1 _ _ tH),(fun k' cK z=>m5 _ _ (n5 _ _ ((mU k' cK).mp z))),(fun t' b' cK k' z1 z2 z3 z4=>n6 t' b' cK k' z1 z2 z3 ((mU k' cK).mp z4))⟩
      ·rw [Dz KQ RQ,List.length_append,List.length_singleton]
       omega
      ·have RS:(∀ cK,¬ Ak (upd H9 B (.lst (sD ++ [.ref b]))) kvs k' cK) ↔ ∀ cK,¬ Ak H9 kvs k' cK:=⟨fun z cK y=>z cK ((mU k' cK).mpr y),fun z cK y=>z cK ((mU k' cK).mp y)⟩
       rw [RS]
       by_cases kY:k' = k
       ·subst kY
        exact ⟨fun _=>⟨⟨who,m1 _ _ uB⟩,KS⟩,fun _=>by simp⟩
       ·rw [other k' kY,<- m4 k']
        simp [kY]
     ·have eZ : Bm cs (.inl (who : Int)) ≠ [] := fun z => by
       rw [z] at he
       exact absurd he (by decide)
      refine ⟨sD,kA,_,_,_,rfl,GY.trans WU,pY,KR,pX.imp (fun _ _ z=>Iw.up tJ.2 z),by omega,RP,n1,n2,n3,(fun k'=>?_),GZ.trans tJ.2,tJ.1 _ _ tH,(fun k' cK z=>m5 _ _ (n5 _ _ z)),n6⟩
      by_cases kY:k' = k
      ·subst kY
       refine ⟨fun z=>absurd z hkb,fun z=>?_⟩
       obtain ⟨x,hx⟩ := List.exists_mem_of_ne_nil _ eZ
       obtain ⟨pF,l9,us9,g1,_⟩ := t8 x (Kf hx)
       have hs:(Ao (Bm cs (.inl (who:Int))) (.inl (pF:Int))).isSome = true:=by
        obtain ⟨y,hy⟩ := Jc (k:=x.1) (v:=x.2) hx
        rw [<- g1,hy]
        rfl
       exact absurd ⟨c,_,dD,RO,hs⟩ (z.2 pF)
      ·rw [other k' kY]
       exact m4 k'
    ·have iI : ¬ Ak H8 kvs k who := fun z => by
      obtain ⟨c',kP,g1,g2,g3⟩ := z
      rw [dD] at g1
      cases g1
      rw [hc] at g2
      cases g2
      rw [vV] at g3
      cases g3
     exact ⟨sD,kA,_,_,_,rfl,GY,mT,RM,pX,wL,RN,m1,m2,m3,m4,GZ,tH,m5,taken H8 (fun _ _ z=>z) iI⟩
   rintro σ H8 ⟨sD,kA,v5,v6,v7,rfl,GY,mT,RM,pX,wL,RN,m1,m2,m3,m4,GZ,tH,m5,m6⟩
   refine ⟨sD,kA,_,_,_,_,rfl,GY,mT,RM,pX,wL,RN,m1,m2,(fun later hl k who z1 z2=>?_),m4⟩
   rw [List.take_add_one,tj] at hl
   rcases List.mem_append.mp hl with y | y
   ·exact m3 later y k who z1 z2
   ·have e1:later = lk:=by simpa using y
    subst e1
    obtain ⟨lx,ux,tx,bx,f1,f2,f3,f4,f5⟩ := (lM k who later (m1 _ _ z2) z1).up lt7
    have ex:=hlx lx f1
    subst ex
    rw [WN] at f2
    cases f2
    refine m6 tx bx who k ?_ f4 f5 z2
    rw [List.take_length]
    exact f3
  rintro σ H' ⟨bs,beta,v4,v5,v6,v7,rfl,ch,gZ,RL,WI,WJ,nb,l1,l2,l3,l4⟩
  rw [uA.1,List.take_length] at l2 l3
  exact ⟨_,rfl,q B bs beta H' hB ch gZ RL WI WJ (fun k who=>⟨fun z=>⟨l1 k who z,fun later hl y=>l3 later hl k who y z⟩,fun z=>l2 k who z.1 z.2⟩) l4⟩
def P5 (K:PySem.W.Frag) (aC aA aE aB aD aF:Addr):Sp:=fun vs H Q E=>(∃ (a:Addr) (ws:List Int) (cm:Option Int),vs = [.ref a] /\ Aq H a ws cm /\ (∀ w ∈ ws,1 <= w) /\ 1 <= qv cm /\ (∀ w ∈ ws,intBits w <= 256) /\ intBits (qv cm) <= 256 /\ ws.length <= 8 /\ B7 (qv cm) ws <= 3000 /\
 ∀ (T:Addr) (tv:List ((List Int × Int) × V)) (H':Hp),H T = none -> A6 H H' -> H' T = some (.dT tv) -> Dx ws cm tv -> (tv.map (·.1)).Nodup -> tv.length <= 60000 -> Q (.ref T) H') \/ (∃ (a:Addr) (ws:List Int) (cm:Option Int),vs = [.ref a] /\ Aq H a ws cm /\ (∀ w ∈ ws,intBits w <= 256) /\ intBits (qv cm) <= 256 /\ ws.length <= 8 /\ 3000 < B7 (qv cm) ws /\ ∀ H2,A6 H H2 -> E (.ref aB) none H2)
theorem df {fd uC qa uD:FuncData} (T:Txt K mg aX aV aY bJ cO bA cP aW bB bC cN bK bL bM cQ bN cR bD bE bO bG bH bP bQ bR bS bT cS cT bU cU cV bV cW bI bW bX bZ cA cB cC aZ cD cE cF cH cJ aC aA aE aB aD aI aK aL aM aO aP aN aF aJ aH aG) (F:Dn K "ranks" "ranks" Ll bD fd) (wN:A9 P w K mg base (Ax P w) 6 cQ uC ["hall"] (Y3 K aC aA aE aB aD aF)) (wO:Ah K uC ["hall"] []) (qb:A9 P w K mg base (Ax P w) 1 bN qa ["pending"] (Sr K)) (qc:Ah K qa ["pending"] []) (wQ:A9 P w K mg base (Ax P w) 1 cR uD ["pending","ways","ranked"] (Y1 K)) (wR:Ah K uD ["pending","ways","ranked"] []):A9 P w K mg base (Ax P w) 7 bD fd ["hall"] (P5 K aC aA aE aB aD aF):=by
 refine F.lZ F8 (fun vs H Q E h=>?_) (fun dB A outer s H vs Q E hr h=>?_)
 ·rcases h with ⟨a,ws,cm,rfl,ha,fB,uw,lR,gY,uq,hp,q⟩ | ⟨a,ws,cm,rfl,_,_,_,_,_,_⟩ <;> rfl
 ·obtain h:=h
  refine ⟨_,(A2 (Al (i:=1) F8.nd rfl (Or.inl rfl) (C7 wN (hr.mono (by decide)) rfl T.UN T.k_x3 wO .nil E2 (A0 (pv 0) A3))) (A2 (Al (i:=2) F8.nd rfl (Or.inl rfl) (Ad qb (hr.mono (by decide)) rfl T.JJ T.k_x38 qc .nil Ar (A0 (pv 1) A3))) (A2 (Al (i:=3) F8.nd rfl (Or.inl rfl) Kx) (A2 (Al (i:=4) F8.nd rfl (Or.inl rfl) A7) (A2 (Ol (Dg (i:=5) F8.nd rfl (L4 (pv 1)) _ rfl Rc rfl rfl (fun _ _ _ _=>(Hd K (n:=2) rfl (Cy (Av (i:=0) Kt rfl (Or.inl rfl)) (Cy (Av (i:=1) Kt rfl (Or.inl rfl)) He)))) (fun _ _ _ _=>(Om (D9 (To (pv 1))))) (fun _ _ _ _=>(pv 0)) rfl rfl)) (A2 (Xj Xb (Qq (pv 5) (by intro _; rfl)) (A2 (Cu Xb rfl (Dc (pv 5)) (Av (i:=6) F8.nd rfl (Or.inl rfl)) (A5 (Oj (Fl hr) (pv 3) (pv 6) (pv 4) rfl))) (A2 (Al (i:=5) F8.nd rfl (Or.inl rfl) (Ad wQ (hr.mono (by decide)) rfl T.UO T.k_x1 wR .nil Ar (A0 (pv 1) (A0 (pv 2) (A0 (pv 5) A3))))) (A5 (Al (i:=4) F8.nd rfl (Or.inl rfl) (As Ej (pv 4) A7)))))) (A5 (Af (pv 3))))))))),?_⟩
  rcases h with ⟨a,ws,cm,rfl,ha,fB,uw,lR,gY,uq,hp,q⟩ | ⟨a,ws,cm,rfl,ha,hb,lU,jM,hp,he⟩
  ·refine ⟨_,rfl,E,fun _ _ _ z=>z,.inl ⟨a,ws,cm,rfl,ha,fB,uw,lR,gY,uq,hp,fun D kvs H1 hD s1 eD lV iG pU kZ pT=>?_⟩⟩
   have mD:=lV.ok
   refine ⟨_,rfl,D,kvs,ws,cm,rfl,eD,lV,pT,fun W wv H2 hW s2 eW oU WX oS=>?_⟩
   refine fun T hT=>?_
   have s3:A6 H2 (upd H2 T (.dT [])):=A6.upd hT
   have e3:(upd H2 T (.dT [])) T = some (.dT []):=A1
   generalize upd H2 T (.dT []) = H3 at s3 e3 ⊢
   have sE:=s2.trans s3
   have HA:=sE _ _ eD
   have hTD:T ≠ D:=(Aa (s2 _ _ eD) hT).symm
   refine ⟨D,.dT kvs,trivial,HA,_,rfl,D,.dT kvs,rfl,trivial,HA,fun o=>?_⟩
   have tK:=lV.keep (LT.of sE) (fun c cs e=>sE _ _ e)
   have WY:=tK.ok
   have KW:=pU.keep lV (fun c cs e=>sE _ _ e)
   have tF:LT H3 (upd H3 D (.eM o (.dT kvs))):=LT.dT HA
   have kF:∀ c cs,H3 c = some (.dK cs) -> (upd H3 D (.eM o (.dT kvs))) c = some (.dK cs):=fun c cs e=>by
    rw [A8 (Bb e HA (by intro z; cases z))]
    exact e
   have bF:∀ b ob,b ≠ D -> H3 b = some ob -> (upd H3 D (.eM o (.dT kvs))) b = some ob:=fun b ob n e=>(A8 n).trans e
   have dF:(upd H3 D (.eM o (.dT kvs))) D = some (.eM o (.dT kvs)):=A1
   have tL:=tK.keep tF kF
   have uE:=KW.keep tK kF
   generalize upd H3 D (.eM o (.dT kvs)) = HF at tF kF bF dF tL uE ⊢
   refine fun R hR=>?_
   refine Rb (K:=K) (d:=D) (o:=o) (u := .dT kvs) (fun i zs H'=>∃ eF:List (List Int × Int),H' R = some (.lst zs) /\ zs.length <= i /\ B0 (Iw H') eF zs /\ A6 HF H' /\ ∀ k,k ∈ eF ↔ ∃ v,(k,v) ∈ kvs.take i /\ Vt HF v) ⟨[],A1,Nat.le_refl _,B0.nil,A6.upd hR,fun k=>⟨(fun z=>by cases z),fun ⟨v,z,_⟩=>by rw [List.take_zero] at z; cases z⟩⟩ (fun i zs H' _ ⟨_,_,_,_,s,_⟩=>s _ _ dF) ?_ ?_ ?_ ?_
   ·rintro i x y T2 zs H' hi hit ⟨eF,uF,GV,sF,s',KY⟩ VS
    have hi3:i < 3000:=Nat.lt_of_lt_of_le hi pT
    obtain ⟨kk,bb,dD,rfl,VJ⟩ := hit
    obtain ⟨c,cs,ey,hc,pV,t8⟩ := tL.1 _ (List.mem_of_getElem? dD)
    have VL:y = .ref c:=ey
    subst VL
    have s4:A6 H' (upd H' T2 (.tup [.ref bb,.ref c])):=A6.upd VS
    have e4:(upd H' T2 (.tup [.ref bb,.ref c])) T2 = some (.tup [.ref bb,.ref c]):=A1
    generalize upd H' T2 (.tup [.ref bb,.ref c]) = H4 at s4 e4 ⊢
    have HB:=s4 _ _ uF
    refine ⟨_,rfl,c,cs,rfl,.inl (s4 _ _ (s' _ _ hc)),?_⟩
    obtain ⟨ku,hk1,IV⟩ := VJ.up (B1.of s4)
    refine E9 (fun RT=>?_) (fun RT=>?_)
    ·have pZ : cs = [] := by
      have:cs.isEmpty = true:=by simpa using RT
      exact List.isEmpty_iff.mp this
     subst pZ
     have tt:B1 H4 (upd H4 R (.lst (zs ++ [.ref bb]))):=B1.lst HB
     refine ⟨_,rfl,HB,Dh (by omega),eF ++ [kk],A1,by rw [List.length_append,List.length_singleton]; omega,(sF.imp fun _ _ z=>Iw.up tt (Iw.up (B1.of s4) z)).append (B0.one ⟨bb,ku,rfl,tt _ _ hk1,tt _ _ IV⟩),(s'.trans s4).new hR,fun k=>?_⟩
     rw [List.mem_append,KY,List.mem_singleton,List.take_add_one,dD]
     constructor
     ·rintro (⟨v,z1,z2⟩ | z)
      ·exact ⟨v,List.mem_append_left _ z1,z2⟩
      ·subst z
       exact ⟨.ref c,by simp,c,rfl,hc⟩
     ·rintro ⟨v,z1,z2⟩
      rcases List.mem_append.mp z1 with y | y
      ·exact .inl ⟨v,y,z2⟩
      ·have e1:(k,v) = (kk,.ref c):=by simpa using y
       cases e1
       exact .inr rfl
    ·have eZ : cs ≠ [] := fun z => by
      rw [z] at RT
      exact absurd RT (by decide)
     refine ⟨eF,HB,by omega,sF.imp fun _ _ z=>Iw.up (B1.of s4) z,s'.trans s4,fun k=>?_⟩
     rw [KY,List.take_add_one,dD]
     constructor
     ·rintro ⟨v,z1,z2⟩
      exact ⟨v,List.mem_append_left _ z1,z2⟩
     ·rintro ⟨v,z1,z2⟩
      rcases List.mem_append.mp z1 with y | y
      ·exact ⟨v,y,z2⟩
      ·have e1:(k,v) = (kk,.ref c):=by simpa using y
       cases e1
       obtain ⟨c',e2,e3⟩ := z2
       cases e2
       rw [hc] at e3
       cases e3
       exact absurd rfl eZ
   ·rintro σ H1 Q1 Q2 hQ ⟨v,e1,c,cs,e2,r,z⟩
    exact ⟨v,e1,c,cs,e2,r,hQ _ _ z⟩
   ·rintro σ H1 Q1 Q2 hQ ⟨v,e1,z⟩
    exact ⟨v,e1,hQ _ _ z⟩
   rintro zs HG ⟨wU,hRG,GV,sF,sG,uG⟩
   rw [show kvs.take (D6 (.dT kvs)) = kvs from List.take_length] at uG
   have WZ:=Fa.start tL iG uE uG
   have KZ:=sG _ _ dF
   have WH:D6 (.dT kvs) <= 3000:=pT
   have tG:LT HG (upd HG D (.dT kvs)):=⟨fun b xs e=>by rw [A8 (Bb e KZ (by intro z; cases z))]; exact e,fun b xs e=>by rw [A8 (Bb e KZ (by intro z; cases z))]; exact e⟩
   have oM:A6 H3 (upd HG D (.dT kvs)):=fun b ob e=>by
    by_cases z:b = D
    ·subst z
     rw [HA] at e
     cases e
     exact A1
    ·exact (A8 z).trans (sG _ _ (bF b ob z e))
   refine ⟨o,KZ,?_⟩
   have HB:=tG.1 _ _ hRG
   have LA:B0 (Iw (upd HG D (.dT kvs))) wU zs:=sF.imp fun _ _ z=>Iw.up tG.2 z
   have cG:∀ c cs,HF c = some (.dK cs) -> (upd HG D (.dT kvs)) c = some (.dK cs):=fun c cs e=>by
    rw [A8 (Bb (sG _ _ e) KZ (by intro z; cases z))]
    exact sG _ _ e
   have hR3:H3 R = none:=by
    cases hx:H3 R with
    | none=>rfl
    | some ob =>
     by_cases z:R = D
     ·rw [z,dF] at hR
      cases hR
     ·rw [bF R ob z hx] at hR
      cases hR
   generalize upd HG D (.dT kvs) = H4 at tG oM HB LA cG ⊢
   clear tG hRG sF sG KZ
   have LB:=tK.keep (LT.of oM) (fun c cs e=>oM _ _ e)
   have wV:=LB.ok
   have XA:Fa ws cm [] wU 1 (Ak H4 kvs):=by
    have e:Ak H4 kvs = Ak HF kvs:=by
     funext k who
     exact propext (Ak.keep tL cG)
    rw [e]
    exact WZ
   have XB:∀ k who later,Ak H4 kvs k who -> some later ∈ Bf ws k.1 cm k.2 who -> C3 H4 wv later k who:=fun k who later z1 z2=>((WX k who later ((Ak.keep lV (fun c cs e=>oM _ _ (sE _ _ e))).mp z1) z2).up (LT.of s3)).up (LT.of oM)
   have eD4:=oM _ _ HA
   have eW4:=oM _ _ (s3 _ _ eW)
   have XC:=oM _ _ e3
   have XD:=oU.up ((LT.of s3).trans (LT.of oM)) (Nat.le_refl _)
   have hl4:C9 H4 kvs <= 24000:=by
    have:=Km wV
    omega
   have hTv:∀ kv ∈ kvs,kv.2 ≠ .ref T:=fun kv dD z=>by
    obtain ⟨c,cs,e1,e2,_⟩ := WY kv dD
    rw [z] at e1
    cases e1
    rw [e3] at e2
    cases e2
   dsimp only
   refine Yf (fun σ' H'=>∃ (R:Addr) (rs:List V) (eF:List (List Int × Int)) (tv:List ((List Int × Int) × V)) (rank:Int) (v6:Option V),σ' = [some (.ref a),some (.ref D),some (.ref W),some (.ref T),some (.int rank),some (.ref R),v6] /\ (∀ b ob,b ≠ T -> H4 b = some ob -> (∀ kv ∈ kvs,kv.2 ≠ .ref b) -> H' b = some ob) /\ Ch ws cm H' kvs /\ H' T = some (.dT tv) /\ (tv.map (·.1)).Nodup /\ H' R = some (.lst rs) /\ B0 (Iw H') eF rs /\ Fa ws cm tv eF rank (Ak H' kvs) /\ (∀ k who,Ak H' kvs k who -> Ak H4 kvs k who) /\ tv.length + rs.length + C9 H' kvs <= 27000)
    (fun σ' H'=>2 * C9 H' kvs + match σ' with
     | [_,_,_,_,_,some (.ref R),_]=>(match H' R with
      | some (.lst [])=>0
      | _=>1)
     | _=>0) ⟨R,zs,wU,[],1,_,rfl,(fun b ob _ e _=>e),LB,XC,List.Pairwise.nil,HB,LA,XA,(fun _ _ z=>z),by show 0 + zs.length + _ <= _; omega⟩ ?_ ?_
   ·rintro σ' H' ⟨R,rs,eF,tv,rank,v6,rfl,kp,gZ,uH,htv,uF,uA,LC,p9,hsum⟩
    have tE:=gZ.ok
    refine ⟨_,rfl,_,.inl ⟨_,B5.of uF,rfl⟩,?_⟩
    have oG:=kp D _ hTD.symm eD4 (fun kv dD z=>by
     obtain ⟨c,cs,e1,e2,_⟩ := wV kv dD
     rw [z] at e1
     cases e1
     rw [eD4] at e2
     cases e2)
    refine E9 (fun eZ=>?_) (fun pZ=>?_)
    ·have XE : 0 < rs.length := by
      cases rs with
      | nil=>exact absurd eZ (by decide)
      | cons x xs=>simp
     have hRT:R ≠ T:=Bb uF uH (by intro z; cases z)
     have mu0:(match H' R with
      | some (.lst [])=>0
      | _=>1) = 1:=by
      rw [uF]
      cases rs with
      | nil=>exact absurd XE (by decide)
      | cons x xs=>rfl
     refine ⟨_,rfl,R,rfl,.inl ⟨⟨_,B5.of uF⟩,?_⟩⟩
     refine Dl (K:=K) (a:=R) (xs:=rs) (fun i σ H5=>∃ (qd:List ((List Int × Int) × V)) (v6:Option V),σ = [some (.ref a),some (.ref D),some (.ref W),some (.ref T),some (.int rank),some (.ref R),v6] /\ (∀ b,b ≠ T -> H5 b = H' b) /\ H5 T = some (.dT qd) /\ (qd.map (·.1)).Nodup /\ (∀ kv ∈ qd,∃ n:Int,kv.2 = .int n /\ 1 <= n /\ n < rank + 1) /\ (∀ k,Ao qd k = if k ∈ eF.take i then some (.int rank) else Ao tv k) /\ qd.length <= tv.length + i)
      ⟨tv,_,rfl,(fun _ _=>rfl),uH,htv,(fun kv dD=>by obtain ⟨n,e1,e2,e3⟩ := LC.2.1 kv dD; exact ⟨n,e1,e2,by omega⟩),(fun k=>by rw [List.take_zero,if_neg (by simp)]),Nat.le_refl _⟩ (fun i σ H5 _ ⟨_,_,_,e,_⟩=>B5.of ((e R hRT).trans uF)) ?_ ?_
     ·rintro i u σ H5 hu ⟨qd,v6,rfl,k5,XF,wW,wX,tM,hl5⟩
      have hi:=(List.getElem?_eq_some_iff.mp hu).1
      obtain ⟨k,hk0,b,u1,rfl,lR,gY⟩ := uA.get hu
      have hbk:G3 H5 b k:=⟨u1,(k5 b (Bb lR uH (by intro z; cases z))).trans lR,(k5 u1 (Bb gY uH (by intro z; cases z))).trans gY⟩
      refine ⟨_,rfl,_,rfl,_,rfl,T,_,rfl,Tx.t XF hbk (Dh (by omega)),?_⟩
      refine ⟨C8 qd k (.int rank),_,rfl,(fun x n=>(A8 n).trans (k5 x n)),A1,bo wW,Qr (P:=fun v=>∃ n:Int,v = .int n /\ 1 <= n /\ n < rank + 1) wX ⟨rank,rfl,LC.1,by omega⟩,(fun k'=>?_),Nat.le_trans (Dm _ _ _) (by omega)⟩
      rw [Hl,tM,List.take_add_one,hk0]
      by_cases z:k' = k
      ·rw [if_pos z,if_pos (by rw [z]; simp)]
      ·rw [if_neg z]
       have e:(k' ∈ eF.take i ++ (some k).toList) ↔ k' ∈ eF.take i:=by simp [z]
       by_cases y:k' ∈ eF.take i
       ·rw [if_pos y,if_pos (e.mpr y)]
       ·rw [if_neg y,if_neg (fun x=>y (e.mp x))]
     rintro σ H5 ⟨qd,v65,rfl,k5,XF,wW,wX,tM,hl5⟩
     rw [uA.1,List.take_length] at tM
     have c5:∀ c cs,H' c = some (.dK cs) -> H5 c = some (.dK cs):=fun c cs e=>(k5 c (Bb e uH (by intro z; cases z))).trans e
     have t5:LT H' H5:=⟨fun b xs e=>(k5 b (Bb e uH (by intro z; cases z))).trans e,fun b xs e=>(k5 b (Bb e uH (by intro z; cases z))).trans e⟩
     have LD:=gZ.keep t5 c5
     have mR:=LD.ok
     have RU:∀ k who,Ak H5 kvs k who ↔ Ak H' kvs k who:=fun k who=>Ak.keep gZ c5
     have XG:Ak H5 kvs = Ak H' kvs:=by
      funext k who
      exact propext (RU k who)
     have hl5e:=Dz tE c5
     have kp5:∀ b ob,b ≠ T -> H4 b = some ob -> (∀ kv ∈ kvs,kv.2 ≠ .ref b) -> H5 b = some ob:=fun b ob n e m=>(k5 b n).trans (kp b ob n e m)
     have qe:∀ b ob,b ≠ T -> H4 b = some ob -> (∀ cs,ob ≠ .dK cs) -> H5 b = some ob:=fun b ob n e m=>kp5 b ob n e fun kv dD z=>by
      obtain ⟨c,cs,e1,e2,_⟩ := wV kv dD
      rw [z] at e1
      cases e1
      rw [e] at e2
      exact m cs (Option.some.inj e2)
     have hWT:W ≠ T:=Aa eW hT
     have t45:LT H4 H5:=⟨fun b xs e=>qe b _ (Bb e XC (by intro z; cases z)) e (fun cs z=>nomatch z),fun b xs e=>qe b _ (Bb e XC (by intro z; cases z)) e (fun cs z=>nomatch z)⟩
     refine ⟨_,rfl,_,rfl,_,rfl,D,W,R,kvs,wv,rs,eF,H1,ws,cm,rfl,(k5 D hTD.symm).trans oG,LD,qe W _ hWT eW4 (fun cs z=>nomatch z),XD.up t45 (Nat.le_refl _),(fun k who later z1 z2=>(XB k who later (p9 k who ((RU k who).mp z1)) z2).up t45),(k5 R hRT).trans uF,uA.imp (fun _ _ z=>Iw.up t5.2 z),Nat.le_trans (Km mR) (by omega),fun B bs beta H6 hB ch6 XH hB6 XI LF LG XJ=>?_⟩
     have XM:Fa ws cm qd beta (rank + 1) (Ak H6 kvs):=Fa.step LC tM wX (fun k who=>by rw [LG,RU]) (fun k=>by rw [XJ,XG])
     have hT6:H6 T = some (.dT qd):=ch6 T _ XF hTv
     refine ⟨_,rfl,_,_,rfl,rfl,⟨B,bs,beta,qd,rank + 1,_,rfl,(fun b ob n e m=>ch6 b ob (kp5 b ob n e m) m),XH,hT6,wW,hB6,XI,XM,(fun k who z=>p9 k who ((RU k who).mp ((LG k who).mp z).1)),by omega⟩,?_⟩
     show 2 * C9 H6 kvs + (match H6 B with
      | some (.lst [])=>0
      | _=>1) < 2 * C9 H' kvs + (match H' R with
      | some (.lst [])=>0
      | _=>1)
     rw [mu0,hB6]
     cases bs with
     | nil =>
      show 2 * C9 H6 kvs + 0 < _
      have:C9 H6 kvs + 0 <= C9 H5 kvs:=LF
      omega
     | cons x xs =>
      show 2 * C9 H6 kvs + 1 < _
      rw [List.length_cons] at LF
      omega
    ·have XN : rs = [] := by
      cases rs with
      | nil=>rfl
      | cons x xs=>exact absurd rfl pZ
     have LH:eF = []:=by
      have:=uA.1
      rw [XN] at this
      exact List.length_eq_zero_iff.mp this.symm
     rw [LH] at LC
     refine ⟨_,rfl,q T tv H' (s1.free (s2.free hT)) (fun b ob e=>?_) uH LC.done htv (by omega)⟩
     have e4:=oM _ _ (sE _ _ (s1 _ _ e))
     refine kp b ob (fun z=>?_) e4 (fun kv dD z=>?_)
     ·have:=s1.free (s2.free hT)
      rw [z,this] at e
      cases e
     ·rw [kZ kv dD b z] at e
      cases e
   ·intro σ H0 Q1 Q2 z h1
    obtain ⟨_,e,k,t,h2⟩ := h1
    exact ⟨_,e,k,t,z _ _ h2⟩
  ·exact ⟨_,rfl,E,fun _ _ _ z=>z,.inr ⟨a,ws,cm,rfl,ha,hb,lU,jM,hp,he⟩⟩
def P6 (K:PySem.W.Frag):Sp:=fun vs H Q _=>∃ (TB:Addr) (v:V) (o:Option (List Int × Int)) (tv:List ((List Int × Int) × V)),vs = [.ref TB,v] /\ H TB = some (.dT tv) /\ Ga H o v /\ Pj tv /\ ∀ (p:Addr) (H':Hp),A6 H H' -> H' p = some (.tup [.int (told tv o).1,.int (told tv o).2]) -> Q (.ref p) H'
theorem dh {fd  : FuncData} (T:Txt K mg aX aV aY bJ cO bA cP aW bB bC cN bK bL bM cQ bN cR bD bE bO bG bH bP bQ bR bS bT cS cT bU cU cV bV cW bI bW bX bZ cA cB cC aZ cD cE cF cH cJ aC aA aE aB aD aI aK aL aM aO aP aN aF aJ aH aG) (F:Dn K "worth" "worth" Nk bE fd):A9 P w K mg base (Ax P w) 1 bE fd ["table","behind"] (P6 K):=by
 refine F.okN fi (fun vs H Q E h=>?_) (fun dB A outer s H vs Q E hr h=>?_)
 ·rcases h with ⟨TB,v,o,tv,rfl,hT,hv,lC,q⟩ <;> rfl
 ·obtain ⟨TB,v,o,tv,rfl,hT,hv,lC,q⟩ := h
  refine ⟨_,(A2 (B6 (An Kw (pv 1) C5 (Am _)) (A5 (Af (D0 (A0 A7 (A0 A7 A3))))) Ae) (A2 (B6 (Ih (Ig (Fl hr) (pv 1) (pv 0)) rfl) (A5 (Af (D0 (A0 A7 (A0 (Fv (Fl hr) (pv 0) (pv 1) (fun _ _=>rfl)) A3))))) Ae) (A5 (Af (D0 (A0 A7 (A0 A7 A3))))))),?_⟩
  cases o with
  | none =>
   have ev:v = .cZ:=hv
   subst ev
   exact ⟨_,rfl,rfl,_,rfl,Cm rfl ⟨Bi,fun p hp=>q p _ (A6.upd hp) A1⟩⟩
  | some k =>
   obtain ⟨p,ev,eP⟩ := hv
   subst ev
   refine ⟨_,rfl,rfl,_,rfl,Az rfl ?_⟩
   refine ⟨_,rfl,_,rfl,TB,_,rfl,D5.t hT (show G3 H p k from eP),_,rfl,E9 (fun hn=>?_) (fun hn=>?_)⟩
   ·obtain ⟨v,hv⟩ := Option.isSome_iff_exists.mp hn
    obtain ⟨m,e⟩ := lC k v hv
    subst e
    have dg:D5 H TB (.ref p) (some (.int m)):=by
     rw [<- hv]
     exact D5.t hT eP
    refine ⟨_,rfl,_,rfl,TB,_,rfl,dg,Bi,fun p2 IY=>q p2 _ (A6.upd IY) ?_⟩
    have e:told tv (some k) = (0,m):=by
     show Qx (Ao tv k) = _
     rw [hv]
     rfl
    rw [e]
    exact A1
   ·refine ⟨Bi,fun p2 IY=>q p2 _ (A6.upd IY) ?_⟩
    have e:told tv (some k) = (1,0):=by
     show Qx (Ao tv k) = _
     cases hv:Ao tv k with
     | none=>rfl
     | some v=>rw [hv] at hn; exact absurd rfl hn
    rw [e]
    exact A1
def Sd (K:PySem.W.Frag):Sp:=fun vs H Q _=>∃ (a TB b:Addr) (ws ls:List Int) (cm:Option Int) (q w:Int) (who:Nat) (tv:List ((List Int × Int) × V)),vs = [.ref a,.ref TB,.ref b,.int w] /\ w = (who:Int) /\ Aq H a ws cm /\ Cc H b ls q /\ H TB = some (.dT tv) /\ Pj tv /\ who < ws.length /\ ls.length = ws.length /\ ws.length <= 8 /\ (∀ x ∈ ws,1 <= x) /\
 ∀ (p:Addr) (H':Hp),A6 H H' -> H' p = some (.tup [.int (Pd tv ws ls cm q who).1,.int (Pd tv ws ls cm q who).2]) -> Q (.ref p) H'
theorem ce {fd iX iW:FuncData} (T:Txt K mg aX aV aY bJ cO bA cP aW bB bC cN bK bL bM cQ bN cR bD bE bO bG bH bP bQ bR bS bT cS cT bU cU cV bV cW bI bW bX bZ cA cB cC aZ cD cE cF cH cJ aC aA aE aB aD aI aK aL aM aO aP aN aF aJ aH aG) (F:Dn K "call_worth" "call_worth" Lc bO fd) (iY:A9 P w K mg base (Ax P w) 1 bE iX ["table","behind"] (P6 K)) (iZ:Ah K iX ["table","behind"] []) (jY:A9 P w K mg base (Ax P w) 5 bB iW ["hall","standing","who"] (P2 K)) (jZ:Ah K iW ["hall","standing","who"] []):A9 P w K mg base (Ax P w) 6 bO fd ["hall","table","standing","who"] (Sd K):=by
 refine F.okN f6 (fun vs H Q E h=>?_) (fun dB A outer s H vs Q E hr h=>?_)
 ·rcases h with ⟨a,TB,b,ws,ls,cm,n,w0,who,tv,rfl,rfl,ha,hb,hT,lC,hw,hl,h8,fB,q⟩ <;> rfl
 ·obtain ⟨a,TB,b,ws,ls,cm,n,w0,who,tv,rfl,rfl,ha,hb,hT,lC,hw,hl,h8,fB,q⟩ := h
  refine ⟨_,(A5 (Af (Ap (U9 K hr rfl) (by rfl) T.lN boot_min (A0 (Dk (Dc (Ad jY (hr.mono (by decide)) rfl T.u7 T.k_x19 jZ .nil Ar (A0 (pv 0) (A0 (pv 2) (A0 (pv 3) A3))))) _ rfl Jf rfl rfl (fun _ _ _ _=>(Av (i:=0) Jm rfl (Or.inl rfl))) (fun _ _ _ _=>Cr) (fun _ _ _ _=>(Ad iY (hr.mono (by decide)) rfl T.pA T.k_x44 iZ .nil Ar (A0 (pv 1) (A0 (pv 0) A3))))) A3)))),?_⟩
  have hbl:(Bf ws ls cm n who).length <= 2:=by
   unfold Bf
   split <;> simp
  refine ⟨_,rfl,_,rfl,_,rfl,a,b,ws,ls,cm,n,_,who,rfl,rfl,ha,hb,hw,hl,h8,fun l us H1 sA s1 el om=>⟨l,rfl,.inl ⟨⟨_,B5.of el⟩,fun W hW=>?_⟩⟩⟩
  have hul:=om.1
  refine De (K:=K) (a:=l) (xs:=us) (fun i zs H'=>zs.length = i /\ R7 H' (fun j=>told tv ((Bf ws ls cm n who).getD j none)) zs /\ H' W = some (.lst zs) /\ A6 H1 H') ⟨rfl,(fun j u h=>by simp at h),A1,A6.upd hW⟩ (fun i zs H' _ ⟨_,_,_,s⟩=>B5.of (s _ _ el)) ?_ ?_
  ·rintro i y zs H' hy ⟨GV,sF,uy,s'⟩ Qe hQ
   obtain ⟨o,ho,hyo⟩ := om.get hy
   have hi:=(List.getElem?_eq_some_iff.mp hy).1
   refine ⟨_,rfl,_,rfl,TB,y,o,tv,rfl,(s1.trans s') _ _ hT,hyo.up (B1.of s'),lC,fun p H2 s2 e2=>?_⟩
   have qf:=s2 _ _ uy
   have tt:B1 H2 (upd H2 W (.lst (zs ++ [.ref p]))):=B1.lst qf
   refine hQ _ _ qf (B3 (by omega)) ⟨by rw [List.length_append,List.length_singleton]; omega,sF.snoc ((B1.of s2).trans tt) GV (tt _ _ ?_),A1,(s'.trans s2).new hW⟩
   have eo:(Bf ws ls cm n who).getD i none = o:=by rw [List.getD_eq_getElem?_getD,ho]; rfl
   show H2 p = some (.tup [.int (told tv ((Bf ws ls cm n who).getD i none)).1,.int (told tv ((Bf ws ls cm n who).getD i none)).2])
   rw [eo]
   exact e2
  rintro zs H2 ⟨GV,sF,qf,s2⟩
  have XO:zs.length = (Bf ws ls cm n who).length:=by omega
  have eC:=s1.trans s2
  have lR:0 < (Bf ws ls cm n who).length:=by
   unfold Bf
   simp
  refine ⟨W,_,_,rfl,B5.of qf,sF.rp XO,by omega,Ta _ _,Td _ _,fun v hv=>?_⟩
  obtain ⟨p,e1,e2⟩ := sF _ v hv
  subst e1
  refine q p H2 eC ?_
  rw [e2]
  have key:told tv ((Bf ws ls cm n who).getD (Js ((List.range (Bf ws ls cm n who).length).map fun i=>wd (told tv ((Bf ws ls cm n who).getD i none)))) none) = Pd tv ws ls cm n who:=by
   by_cases hm:Gh cm n = true
   ·have eb : Bf ws ls cm n who = [En ws ls cm n who false, En ws ls cm n who true] := by
     unfold Bf
     rw [if_pos hm]
    rw [eb]
    unfold Pd i8
    rw [if_pos hm]
    have uI:Js ((List.range [En ws ls cm n who false,En ws ls cm n who true].length).map fun i=>wd (told tv ([En ws ls cm n who false,En ws ls cm n who true].getD i none))) = if Ki (told tv (En ws ls cm n who false)) (told tv (En ws ls cm n who true)) = true then 1 else 0:=by
     rw [<- Wz]
     unfold Js
     rw [show ((List.range [En ws ls cm n who false,En ws ls cm n who true].length).map fun i=>wd (told tv ([En ws ls cm n who false,En ws ls cm n who true].getD i none))).length - 1 = 0 + 1 from rfl,Du]
     rfl
    rw [uI]
    by_cases y:Ki (told tv (En ws ls cm n who false)) (told tv (En ws ls cm n who true)) = true
    ·rw [if_pos y,if_pos y]
     rfl
    ·rw [if_neg y,if_neg y]
     rfl
   ·have eb : Bf ws ls cm n who = [En ws ls cm n who false] := by
     unfold Bf
     rw [if_neg hm]
    rw [eb]
    unfold Pd
    rw [if_neg hm]
    rfl
  rw [<- key]
def P3 (K:PySem.W.Frag):Sp:=fun vs H Q _=>∃ (a TB b:Addr) (ws ls:List Int) (cm:Option Int) (q:Int) (tv:List ((List Int × Int) × V)),vs = [.ref a,.ref TB,.ref b] /\ Aq H a ws cm /\ Cc H b ls q /\ H TB = some (.dT tv) /\ Pj tv /\ 0 < ws.length /\ ls.length = ws.length /\ ws.length <= 8 /\ (∀ x ∈ ws,1 <= x) /\
 ∀ (j:Nat) (H':Hp),A6 H H' -> G5 (fun i=>Pd tv ws ls cm q i) ws.length j -> Q (.int (j:Int)) H'
theorem ck {fd qg:FuncData} (T:Txt K mg aX aV aY bJ cO bA cP aW bB bC cN bK bL bM cQ bN cR bD bE bO bG bH bP bQ bR bS bT cS cT bU cU cV bV cW bI bW bX bZ cA cB cC aZ cD cE cF cH cJ aC aA aE aB aD aI aK aL aM aO aP aN aF aJ aH aG) (F:Dn K "best_call" "best_call" Lg bG fd) (qh:A9 P w K mg base (Ax P w) 6 bO qg ["hall","table","standing","who"] (Sd K)) (qi:Ah K qg ["hall","table","standing","who"] []):A9 P w K mg base (Ax P w) 7 bG fd ["hall","table","standing"] (P3 K):=by
 refine F.okN Xw (fun vs H Q E h=>?_) (fun dB A outer s H vs Q E hr h=>?_)
 ·rcases h with ⟨a,TB,b,ws,ls,cm,n,tv,rfl,ha,hb,hT,lC,LI,hl,h8,fB,q⟩ <;> rfl
 ·obtain ⟨a,TB,b,ws,ls,cm,n,tv,rfl,ha,hb,hT,lC,LI,hl,h8,fB,q⟩ := h
  refine ⟨_,(A2 (Dg (i:=3) Xw.nd rfl (D4 (by rfl) T.eA (A0 (Ap (C6 K) (by rfl) T.eR PySem.boot_len (A0 (Au (Aw K) (pv 0) A7 (fun _ _=>rfl)) A3)) A3)) _ rfl K6 rfl rfl (fun _ _ _ _=>(Av (i:=0) Kr rfl (Or.inl rfl))) (fun _ _ _ _=>Cr) (fun _ _ _ _=>(Ad qh (hr.mono (by decide)) rfl T.JK T.k_x20 qi .nil Ar (A0 (pv 1) (A0 (pv 2) (A0 (pv 3) (A0 (pv 0) A3)))))) rfl rfl) (A5 (Af (E3 PySem.F.plainAttrs_list PySem.F.slot_list_index PySem.F.type_list_index (Uy hr) (pv 3) (A0 (Ap (U7 K hr rfl) (by rfl) T.um boot_max (A0 (pv 3) A3)) A3))))),?_⟩
  obtain ⟨wt,fF,fA⟩ := id ha
  refine ⟨_,rfl,a,_,_,_,rfl,rfl,.inr (Bw.of fF),rfl,wt,_,rfl,.inr (Bw.of fA),_,rfl,by omega,by rw [List.length_map]; omega,fun D hD=>?_⟩
  refine Ez (cnt:=((ws.map V.int).length:Int).toNat) (fun j ys H'=>ys.length = j /\ R7 H' (fun i=>Pd tv ws ls cm n i) ys /\ H' D = some (.lst ys) /\ A6 H H') ⟨rfl,(fun i u h=>by simp at h),A1,A6.upd hD⟩ ?_ ?_
  ·rintro j ys H5 hj ⟨nR,LJ,pW,s5⟩ Qe hQ
   rw [List.length_map] at hj
   have hj':j < ws.length:=by omega
   refine ⟨_,rfl,_,rfl,_,rfl,_,rfl,a,TB,b,ws,ls,cm,n,_,j,tv,rfl,Int.zero_add _,ha.same s5,hb.same s5,s5 _ _ hT,lC,hj',hl,h8,fB,fun p2 H6 s6 e6=>?_⟩
   have hD6:=s6 _ _ pW
   have tt:B1 H6 (upd H6 D (.lst (ys ++ [.ref p2]))):=B1.lst hD6
   exact hQ _ _ hD6 (B3 (by omega)) ⟨by rw [List.length_append,List.length_singleton]; omega,LJ.snoc ((B1.of s6).trans tt) nR (tt _ _ e6),A1,(s5.trans s6).new hD⟩
  rintro ys H5 ⟨nR,LJ,pW,s5⟩
  have LK:ys.length = ws.length:=by
   rw [nR,List.length_map]
   omega
  refine ⟨_,rfl,.inl ⟨rfl,_,B5.of pW⟩,_,rfl,D,_,_,rfl,B5.of pW,LJ.rp LK,by omega,Ta _ _,Td _ _,fun vb ph=>?_⟩
  obtain ⟨pb,eb1,eb2⟩ := LJ _ vb ph
  subst eb1
  obtain ⟨j,j1,j2,j3⟩ := i7 (Pr:=fun m=>Pd tv ws ls cm n m = Pd tv ws ls cm n (Dj ((List.range ws.length).map fun i=>wd (Pd tv ws ls cm n i)))) _ rfl
  have uJ:G5 (fun i=>Pd tv ws ls cm n i) ws.length j:=G5.of LI j1 j2 j3
  refine ⟨D,ys,_,wd (Pd tv ws ls cm n (Dj ((List.range ws.length).map fun i=>wd (Pd tv ws ls cm n i)))),_,j,rfl,rfl,B5.of pW,Tr eb2,LJ.rp LK,Kd _,⟨_,Yu _ uJ.1,by rw [Wi]; exact decide_eq_true j2⟩,(fun m e hm he=>by rw [Wp he,Wi]; exact decide_eq_false (j3 m hm)),?_⟩
  exact q j H5 s5 uJ
def P0 (K:PySem.W.Frag) (aC aA aE aB aD aF:Addr):Sp:=fun vs H Q E=>(∃ (a TB b:Addr) (ws ls:List Int) (cm:Option Int) (q w:Int) (who:Nat) (tv:List ((List Int × Int) × V)),vs = [.ref a,.ref TB,.ref b,.int w] /\ w = (who:Int) /\ Aq H a ws cm /\ Cc H b ls q /\ H TB = some (.dT tv) /\ Pj tv /\ who < ws.length /\ ls.length = ws.length /\ ws.length <= 8 /\
 ∀ (H':Hp),A6 H H' -> Q (.bl (Ds tv ws ls cm q who)) H') \/ (∃ (a TB b:Addr) (ws ls:List Int) (cm:Option Int) (q who:Int),vs = [.ref a,.ref TB,.ref b,.int who] /\ Aq H a ws cm /\ Cc H b ls q /\ gj H ws cm q who false aA aE E)
theorem br {fd iX dJ fG:FuncData} (T:Txt K mg aX aV aY bJ cO bA cP aW bB bC cN bK bL bM cQ bN cR bD bE bO bG bH bP bQ bR bS bT cS cT bU cU cV bV cW bI bW bX bZ cA cB cC aZ cD cE cF cH cJ aC aA aE aB aD aI aK aL aM aO aP aN aF aJ aH aG) (F:Dn K "worst_answer" "worst_answer" My bH fd) (iY:A9 P w K mg base (Ax P w) 1 bE iX ["table","behind"] (P6 K)) (iZ:Ah K iX ["table","behind"] []) (eG:A9 P w K mg base (Ax P w) 4 aW dJ ["hall","standing","who","lost"] (Ip K aC aA aE aB aD aF)) (eU:Ah K dJ ["hall","standing","who","lost"] []) (dC:Ah K dJ ["hall","standing","who","lost"] [Value.bool false]) (fZ:A9 P w K mg base (Ax P w) 1 aY fG ["hall","standing"] (Lo K)) (gA:Ah K fG ["hall","standing"] []):A9 P w K mg base (Ax P w) 5 bH fd ["hall","table","standing","who"] (P0 K aC aA aE aB aD aF):=by
 refine F.lZ Xr (fun vs H Q E h=>?_) (fun dB A outer s H vs Q E hr h=>?_)
 ·rcases h with ⟨a,TB,b,ws,ls,cm,n,w0,who,tv,rfl,rfl,ha,hb,hT,lC,hw,hl,h8,q⟩ | ⟨a,TB,b,ws,ls,cm,n,who,rfl,ha,hb,bad⟩ <;> rfl
 ·obtain h:=h
  refine ⟨_,(A2 (Al (i:=4) Xr.nd rfl (Or.inl rfl) (Ad iY (hr.mono (by decide)) rfl T.pA T.k_x44 iZ .nil Ar (A0 (pv 1) (A0 (V8 (C7 eG (hr.mono (by decide)) rfl T.jT T.k_x42 dC (Hm) E2 (A0 (pv 0) (A0 (pv 2) (A0 (pv 3) A3))))) A3)))) (A2 (B6 (D9 (Bj (Ad fZ (hr.mono (by decide)) rfl T.pw T.k_x29 gA .nil Ar (A0 (pv 0) (A0 (pv 2) A3))))) (A5 (Af Fm)) Ae) (A5 (Af (Bk (dk hr) (Ad iY (hr.mono (by decide)) rfl T.pA T.k_x44 iZ .nil Ar (A0 (pv 1) (A0 (V8 (C7 eG (hr.mono (by decide)) rfl T.jT T.k_x42 eU .nil E2 (A0 (pv 0) (A0 (pv 2) (A0 (pv 3) (A0 Fm A3)))))) A3))) (pv 4) (Am _)))))),?_⟩
  rcases h with ⟨a,TB,b,ws,ls,cm,n,w0,who,tv,rfl,rfl,ha,hb,hT,lC,hw,hl,h8,q⟩ | ⟨a,TB,b,ws,ls,cm,n,who,rfl,ha,hb,bad⟩
  ·refine ⟨_,rfl,(fun v H9=>Ga H9 (En ws ls cm n who false) v /\ A6 H H9),⟨_,rfl,_,rfl,_,rfl,E,fun _ _ _ z=>z,.inl ⟨a,b,ws,ls,cm,n,who,false,rfl,ha,hb,hw,hl,h8,(fun z=>nomatch z),(fun hz H2 s2=>⟨by unfold En; rw [if_pos hz]; rfl,s2⟩),fun hz p H2 s2 eP=>⟨by unfold En; rw [if_neg hz]; exact ⟨p,rfl,eP⟩,s2⟩⟩⟩,?_⟩
   rintro v H1 ⟨hv,s1⟩
   refine ⟨TB,v,_,tv,rfl,s1 _ _ hT,hv,lC,fun p1 H2 s2 e2=>?_⟩
   have eC:=s1.trans s2
   refine ⟨_,rfl,_,rfl,a,b,ws,ls,cm,n,rfl,ha.same eC,hb.same eC,_,rfl,?_⟩
   have em:(!decide (cm = none) && decide (n = 0)) = Gh cm n:=rfl
   rw [em]
   refine E9 (fun hm=>?_) (fun hm=>?_)
   ·have jS:Gh cm n = false:=by simpa using hm
    have e:Ds tv ws ls cm n who = false:=by
     unfold Ds
     rw [jS]
     rfl
    rw [<- e]
    exact q H2 eC
   ·have jS:Gh cm n = true:=by simpa using hm
    have wB:K3 cm n true:=fun _=>by
     unfold Gh at jS
     simp only [Bool.and_eq_true,Bool.not_eq_true',decide_eq_false_iff_not,decide_eq_true_eq] at jS
     exact jS
    refine ⟨_,rfl,(fun v H9=>Ga H9 (En ws ls cm n who true) v /\ A6 H2 H9),⟨_,rfl,_,rfl,_,rfl,E,fun _ _ _ z=>z,.inl ⟨a,b,ws,ls,cm,n,who,true,rfl,ha.same eC,hb.same eC,hw,hl,h8,wB,(fun hz H2 s2=>⟨by unfold En; rw [if_pos hz]; rfl,s2⟩),fun hz p H2 s2 eP=>⟨by unfold En; rw [if_neg hz]; exact ⟨p,rfl,eP⟩,s2⟩⟩⟩,?_⟩
    rintro v3 H3 ⟨hv3,s3⟩
    refine ⟨TB,v3,_,tv,rfl,s3 _ _ (eC _ _ hT),hv3,lC,fun p4 H4 s4 e4=>?_⟩
    have oM:=s3.trans s4
    refine ⟨_,rfl,wd (told tv (En ws ls cm n who true)),wd (told tv (En ws ls cm n who false)),Tr e4,Tr (oM _ _ e2),W0 _ _,Nat.le_trans (Kd _) (by decide),?_⟩
    rw [Wz]
    have e:Ds tv ws ls cm n who = Ki (told tv (En ws ls cm n who false)) (told tv (En ws ls cm n who true)):=by
     unfold Ds
     rw [jS]
     rfl
    rw [<- e]
    exact q H4 (eC.trans oM)
  ·exact ⟨_,rfl,(fun _ _=>False),⟨_,rfl,_,rfl,_,rfl,E,fun _ _ _ z=>z,.inr ⟨a,b,ws,ls,cm,n,who,false,rfl,ha,hb,bad⟩⟩,fun _ _ z=>z.elim⟩
def Sh (K:PySem.W.Frag):Sp:=fun vs H Q _=>∃ x:Str,vs = [.str x] /\ x.length <= 100000 /\ ∀ H',A6 H H' -> Q (.bl (Dy x)) H'
theorem cn {fd  : FuncData} (T:Txt K mg aX aV aY bJ cO bA cP aW bB bC cN bK bL bM cQ bN cR bD bE bO bG bH bP bQ bR bS bT cS cT bU cU cV bV cW bI bW bX bZ cA cB cC aZ cD cE cF cH cJ aC aA aE aB aD aI aK aL aM aO aP aN aF aJ aH aG) (F:Dn K "is_number" "is_number" Lh bP fd):A9 P w K mg base (Ax P w) 1 bP fd ["word"] (Sh K):=by
 refine F.okN f9 (fun vs H Q E h=>?_) (fun dB A outer s H vs Q E hr h=>?_)
 ·rcases h with ⟨x,rfl,hx,q⟩ <;> rfl
 ·obtain ⟨x,rfl,hx,q⟩ := h
  refine ⟨_,(A2 (B6 (D9 (Bj (Ap (Ma rfl) (by rfl) T.uk boot_all (A0 (Dk (dr (pv 0)) _ rfl K7 rfl rfl (fun _ _ _ _=>(Av (i:=0) Ks rfl (Or.inl rfl))) (fun _ _ _ _=>Cr) (fun _ _ _ _=>(Bk V4 (pv 0) (Br (v := .str "0123456789") (by rfl) T.oA.choose_spec ⟨_,rfl⟩) rfl))) A3)))) (A5 (Af Fm)) Ae) (A2 (B6 (PW.pt (Fp (An Ha (Ap Md (by rfl) T.eR PySem.boot_len (A0 (pv 0) A3)) A7 (Am _)) (On (An Tm (Ap Md (by rfl) T.eR PySem.boot_len (A0 (pv 0) A3)) (Br (v := .int 100) (by rfl) T.iU.choose_spec ⟨_,rfl⟩) (Am _))))) (A5 (Af Fm)) Ae) (A5 (Af (dm (Bk Ci (pv 0) Ab (Am _)) (Kz (Bk iu (Au bd (pv 0) A7 (fun _ _=>rfl)) Ab (Am _)))))))),?_⟩
  have hln:x.cps.toList.length = x.length:=by simp [Str.length]
  refine ⟨_,rfl,x,rfl,fun D hD=>?_⟩
  refine W1 (fun i ys H'=>ys = ((x.cps.toList.take i).map Ui).map V.bl /\ H' D = some (.lst ys) /\ A6 H H') ⟨rfl,A1,A6.upd hD⟩ ?_ ?_
  ·rintro i c ys H1 hc ⟨rfl,fK,s1⟩ Qe hQ
   have hi:=(List.getElem?_eq_some_iff.mp hc).1
   refine ⟨_,rfl,_,_,rfl,rfl,?_⟩
   rw [b8]
   refine hQ _ _ fK (fk (by rw [List.length_map,List.length_map,List.length_take]; omega)) ⟨?_,A1,s1.new hD⟩
   rw [M3 hc,List.map_append]
   rfl
  rintro ys H1 ⟨rfl,fK,s1⟩
  rw [List.take_length] at fK
  refine ⟨D,_,rfl,B5.of fK,_,rfl,?_⟩
  have XQ:(x.cps.toList.map Ui).all id = x.cps.toList.all Ui:=by rw [List.all_map]; rfl
  rw [XQ]
  cases hall:x.cps.toList.all Ui with
  | false =>
   refine Cm rfl ?_
   have e:Dy x = false:=by
    unfold Dy
    rw [show (x.cps.toList.all fun c=>decide (48 <= c /\ c <= 57)) = false from hall]
    rfl
   have:=q H1 s1
   rw [e] at this
   exact this
  | true =>
   refine Az rfl ?_
   have lW:((x.length:Nat):Int) < 2 ^ 63:=by omega
   refine ⟨_,rfl,x,rfl,lW,_,_,rfl,rfl,_,rfl,decide (((x.length:Nat):Int) > 100),(fun _ Q' z=>⟨_,rfl,x,rfl,lW,_,_,rfl,rfl,_,rfl,z⟩),?_⟩
   refine E9 (fun h=>?_) (fun h=>?_)
   ·have e : Dy x = false := by
     unfold Dy
     rw [Bool.or_eq_true,decide_eq_true_iff,decide_eq_true_iff] at h
     rw [decide_eq_false (show ¬ (1 <= x.length /\ x.length <= 100) by omega)]
     simp
    have:=q H1 s1
    rw [e] at this
    exact this
   ·have hl : 1 <= x.length /\ x.length <= 100 := by
     rw [Bool.or_eq_true,decide_eq_true_iff,decide_eq_true_iff] at h
     omega
    obtain ⟨c,hc,hh⟩ := Yv (xs:=x.cps.toList) (fun z=>by rw [z] at hln; simp at hln; omega)
    refine ⟨_,rfl,rfl,decide (x = Str.ofString "0"),decide (c ≠ 48),?_,(fun _ Q' z=>⟨_,rfl,x,0,c,rfl,rfl,Nat.le_trans hx (by decide),Jr hc,rfl,?_⟩),?_⟩
    ·rw [O6]
     rfl
    ·have e : (!decide (V.str ⟨#[c]⟩ = V.str (Str.ofString "0"))) = decide (c ≠ 48) := by
      rw [Bool.eq_iff_iff,Bool.not_eq_true',decide_eq_false_iff_not,decide_eq_true_iff]
      have e0:Str.ofString "0" = ⟨#[48]⟩ := by decide
      rw [e0]
      constructor
      ·intro h1 h2
       exact h1 (by rw [h2])
      ·intro h1 h2
       injection h2 with h3
       injection h3 with h4
       exact h1 (by simpa using h4)
     rw [e]
     exact z
    ·have e : Dy x = (decide (x = Str.ofString "0") || decide (c ≠ 48)) := by
      unfold Dy
      rw [show (x.cps.toList.all fun c=>decide (48 <= c /\ c <= 57)) = true from hall,decide_eq_true hl,hh]
      simp
     have:=q H1 s1
     rw [e] at this
     exact this
def Se (K:PySem.W.Frag) (aC aA aE aB aD aF:Addr):Sp:=fun vs H Q E=>(∃ (a:Addr) (ns:List Int),vs = [.ref a] /\ H a = some (.lst ((ns.map Bq).map V.str)) /\ (∀ n ∈ ns,0 <= n /\ n < 10 ^ 100) /\ ns.length <= 300 /\ ∀ (l:Addr) (H':Hp),H l = none -> A6 H H' -> H' l = some (.lst (ns.map V.int)) -> Q (.ref l) H') \/ (∃ (a:Addr) (ws:List Str),vs = [.ref a] /\ H a = some (.lst (ws.map V.str)) /\ ws.length <= 300 /\ (∀ w ∈ ws,w.length <= 100000) /\ (∃ w ∈ ws,Dy w = false) /\ ∀ H2,A6 H H2 -> E (.ref aD) none H2)
theorem cf {fd qj:FuncData} (T:Txt K mg aX aV aY bJ cO bA cP aW bB bC cN bK bL bM cQ bN cR bD bE bO bG bH bP bQ bR bS bT cS cT bU cU cV bV cW bI bW bX bZ cA cB cC aZ cD cE cF cH cJ aC aA aE aB aD aI aK aL aM aO aP aN aF aJ aH aG) (F:Dn K "numbers_of" "numbers_of" J6 bQ fd) (qk:A9 P w K mg base (Ax P w) 1 bP qj ["word"] (Sh K)) (ql:Ah K qj ["word"] []):A9 P w K mg base (Ax P w) 2 bQ fd ["words"] (Se K aC aA aE aB aD aF):=by
 refine F.lZ f7 (fun vs H Q E h=>?_) (fun dB A outer s H vs Q E hr h=>?_)
 ·rcases h with ⟨a,ns,rfl,ha,hb,hl,q⟩ | ⟨a,ws,rfl,ha,hl,hw,iI,he⟩ <;> rfl
 ·obtain h:=h
  refine ⟨_,(A2 (B6 (D9 (Bj (Ap (Ma rfl) (by rfl) T.uk boot_all (A0 (Dk (Dc (pv 0)) _ rfl Jg rfl rfl (fun _ _ _ _=>(Av (i:=0) Jn rfl (Or.inl rfl))) (fun _ _ _ _=>Cr) (fun _ _ _ _=>(Ad qk (hr.mono (by decide)) rfl T.JL T.k_x26 ql .nil Ar (A0 (pv 0) A3)))) A3)))) (A5 (D8 F4 rfl (by rfl) T.iM T.e_NoRow (A0 Ab A3))) Ae) (A5 (Af (Dk (Dc (pv 0)) _ rfl Jh rfl rfl (fun _ _ _ _=>(Av (i:=0) Jo rfl (Or.inl rfl))) (fun _ _ _ _=>Cr) (fun _ _ _ _=>(Bg U5 (by rfl) T.pB boot_int (A0 (pv 0) A3))))))),?_⟩
  rcases h with ⟨a,ns,rfl,ha,hb,hl,q⟩ | ⟨a,ws,rfl,ha,hl,hw,iI,he⟩
  ·have get : ∀ {i : Nat} {v : V}, ((ns.map Bq).map V.str)[i]? = some v -> ∃ n, ns[i]? = some n /\ v = .str (Bq n) /\ gq (Bq n) n /\ i < ns.length := fun {i v} hv => by
    rw [List.getElem?_map,List.getElem?_map] at hv
    obtain ⟨w,hw,rfl⟩ := Option.map_eq_some_iff.mp hv
    obtain ⟨n,hn,rfl⟩ := Option.map_eq_some_iff.mp hw
    have hm:=hb n (List.mem_of_getElem? hn)
    exact ⟨n,hn,rfl,Db hm.1 hm.2,(List.getElem?_eq_some_iff.mp hn).1⟩
   refine ⟨_,rfl,a,rfl,.inl ⟨⟨_,B5.of ha⟩,fun D hD=>?_⟩⟩
   refine De (K:=K) (a:=a) (xs:=(ns.map Bq).map V.str) (fun i ys H'=>ys = (List.replicate i true).map V.bl /\ H' D = some (.lst ys) /\ A6 H H') ⟨rfl,A1,A6.upd hD⟩ (fun i ys H' _ ⟨_,_,s⟩=>B5.of (s _ _ ha)) ?_ ?_
   ·rintro i v ys H1 hv ⟨rfl,fK,s1⟩ Qe hQ
    obtain ⟨n,hn,rfl,W,hi⟩ := get hv
    refine ⟨_,rfl,Bq n,rfl,Nat.le_trans W.len (by decide),fun H2 s2=>?_⟩
    rw [W.is]
    refine hQ _ _ (s2 _ _ fK) (B3 (by rw [List.length_map,List.length_replicate]; omega)) ⟨?_,A1,(s1.trans s2).new hD⟩
    rw [List.replicate_succ',List.map_append]
    rfl
   rintro ys H1 ⟨rfl,fK,s1⟩
   refine ⟨D,_,rfl,B5.of fK,_,rfl,?_⟩
   refine Az (by rw [show (List.replicate ((ns.map Bq).map V.str).length true).all id = true from List.all_eq_true.mpr fun b hb=>by rw [List.eq_of_mem_replicate hb]; rfl]; rfl) ?_
   refine ⟨_,rfl,a,rfl,.inl ⟨⟨_,B5.of (s1 _ _ ha)⟩,fun L hL=>?_⟩⟩
   refine De (K:=K) (a:=a) (xs:=(ns.map Bq).map V.str) (fun i ys H'=>ys = (ns.take i).map V.int /\ H' L = some (.lst ys) /\ A6 H1 H') ⟨rfl,A1,A6.upd hL⟩ (fun i ys H' _ ⟨_,_,s⟩=>B5.of (s _ _ (s1 _ _ ha))) ?_ ?_
   ·rintro i v ys H2 hv ⟨rfl,jL,s2⟩ Qe hQ
    obtain ⟨n,hn,rfl,W,hi⟩ := get hv
    refine ⟨_,rfl,Bq n,n,rfl,W.val,Nat.le_trans W.len (by decide),hQ _ _ jL (B3 (by rw [List.length_map,List.length_take]; omega)) ⟨?_,A1,s2.new hL⟩⟩
    rw [List.take_add_one,hn,List.map_append]
    rfl
   rintro ys H2 ⟨rfl,jL,s2⟩
   rw [List.length_map,List.length_map,List.take_length] at jL
   refine q L H2 ?_ (s1.trans s2) jL
   cases e:H L with
   | none=>rfl
   | some o=>rw [s1 _ _ e] at hL; cases hL
  ·refine ⟨_,rfl,a,rfl,.inl ⟨⟨_,B5.of ha⟩,fun D hD=>?_⟩⟩
   refine De (K:=K) (a:=a) (xs:=ws.map V.str) (fun i ys H'=>ys = ((ws.take i).map Dy).map V.bl /\ H' D = some (.lst ys) /\ A6 H H') ⟨rfl,A1,A6.upd hD⟩ (fun i ys H' _ ⟨_,_,s⟩=>B5.of (s _ _ ha)) ?_ ?_
   ·rintro i v ys H1 hv ⟨rfl,fK,s1⟩ Qe hQ
    rw [List.getElem?_map] at hv
    obtain ⟨w,pq,rfl⟩ := Option.map_eq_some_iff.mp hv
    have hi:=(List.getElem?_eq_some_iff.mp pq).1
    refine ⟨_,rfl,w,rfl,hw w (List.mem_of_getElem? pq),fun H2 s2=>?_⟩
    refine hQ _ _ (s2 _ _ fK) (B3 (by rw [List.length_map,List.length_map,List.length_take]; omega)) ⟨?_,A1,(s1.trans s2).new hD⟩
    rw [List.take_add_one,pq,List.map_append,List.map_append]
    rfl
   rintro ys H1 ⟨rfl,fK,s1⟩
   rw [List.length_map,List.take_length] at fK
   refine ⟨D,_,rfl,B5.of fK,_,rfl,Cm ?_ ⟨Ef,fun H2 s2=>he H2 (s1.trans s2)⟩⟩
   obtain ⟨w,fB,RH⟩ := iI
   rw [Bool.not_eq_true',List.all_eq_false]
   exact ⟨Dy w,List.mem_map.mpr ⟨w,fB,rfl⟩,by rw [RH]; decide⟩
def Sw (K:PySem.W.Frag):Sp:=fun vs H Q _=>∃ (w:Str) (n:Int),vs = [.str w,.int n] /\ Q (.bl (F9 w n)) H
theorem di {fd  : FuncData} (T:Txt K mg aX aV aY bJ cO bA cP aW bB bC cN bK bL bM cQ bN cR bD bE bO bG bH bP bQ bR bS bT cS cT bU cU cV bV cW bI bW bX bZ cA cB cC aZ cD cE cF cH cJ aC aA aE aB aD aI aK aL aM aO aP aN aF aJ aH aG) (F:Dn K "takes" "takes" Nl bR fd):A9 P w K mg base (Ax P w) 1 bR fd ["word","size"] (Sw K):=by
 refine F.okN fj (fun vs H Q E h=>?_) (fun dB A outer s H vs Q E hr h=>?_)
 ·rcases h with ⟨w,n,rfl,q⟩ <;> rfl
 ·obtain ⟨w,n,rfl,q⟩ := h
  refine ⟨_,(A2 (B6 (An (Og K) (pv 0) (Br (v := .ref aJ) (by rfl) T.kN rfl) rfl) (A5 (Af (Bk Ci (pv 1) A7 (Am _)))) Ae) (A2 (B6 (An (Og K) (pv 0) (Br (v := .ref aH) (by rfl) T.iJ rfl) rfl) (A5 (Af (Bk Ci (pv 1) A7 (Am _)))) Ae) (A5 (Af (Hc (Bk (Og K) (pv 0) (Br (v := .ref aG) (by rfl) T.gX rfl) rfl) (Kz (Bk Tm (pv 1) A7 (Am _)))))))),?_⟩
  unfold F9 at q
  refine ⟨_,rfl,aJ,_,rfl,.inr (T.q_ROWS_ALONE H),rfl,rfl,_,rfl,?_⟩
  refine E9 (fun h=>?_) (fun h=>?_)
  ·have h':Pe (.str w) [.str "best",.str "rank"] = true:=h
   rw [if_pos h'] at q
   exact ⟨_,rfl,rfl,q⟩
  have h':¬ Pe (.str w) [.str "best",.str "rank"] = true:=h
  rw [if_neg h'] at q
  refine ⟨_,rfl,aH,_,rfl,.inr (T.q_ROWS_WITH_ONE H),rfl,rfl,_,rfl,?_⟩
  refine E9 (fun h=>?_) (fun h=>?_)
  ·have h':Pe (.str w) [.str "call",.str "lost",.str "answer",.str "join",.str "leave",.str "turn"] = true:=h
   rw [if_pos h'] at q
   exact ⟨_,rfl,rfl,q⟩
  have h':¬ Pe (.str w) [.str "call",.str "lost",.str "answer",.str "join",.str "leave",.str "turn"] = true:=h
  rw [if_neg h'] at q
  exact ⟨_,rfl,aG,_,rfl,.inr (T.q_ROWS_WITH_SOME H),rfl,rfl,_,decide (n > 0),rfl,(fun _ Q' z=>⟨_,rfl,_,_,rfl,rfl,z⟩),q⟩
def Sl (K:PySem.W.Frag) (aC aA aE aB aD aF:Addr):Sp:=fun vs H Q E=>(∃ (x hd:Str) (ns:List Int) (cm:Option Int),vs = [.str x] /\ Fb x hd ns cm /\ ∀ (p l:Addr) (H':Hp),A6 H H' -> H' p = some (.tup [.str hd,.ref l,vO cm]) -> H' l = some (.lst (ns.map V.int)) -> Q (.ref p) H') \/ (∃ x:Str,vs = [.str x] /\ T9 x /\ ∀ H2,A6 H H2 -> E (.ref aD) none H2)
theorem cx {fd qm qo:FuncData} (T:Txt K mg aX aV aY bJ cO bA cP aW bB bC cN bK bL bM cQ bN cR bD bE bO bG bH bP bQ bR bS bT cS cT bU cU cV bV cW bI bW bX bZ cA cB cC aZ cD cE cF cH cJ aC aA aE aB aD aI aK aL aM aO aP aN aF aJ aH aG) (F:Dn K "row_read" "row_read" Nb bS fd) (nS:A9 P w K mg base (Ax P w) 2 bQ qm ["words"] (Se K aC aA aE aB aD aF)) (nU:Ah K qm ["words"] []) (qp:A9 P w K mg base (Ax P w) 1 bR qo ["word","size"] (Sw K)) (qq:Ah K qo ["word","size"] []):A9 P w K mg base (Ax P w) 3 bS fd ["row"] (Sl K aC aA aE aB aD aF):=by
 refine F.lZ Ik (fun vs H Q E h=>?_) (fun dB A outer s H vs Q E hr h=>?_)
 ·rcases h with ⟨x,hd,ns,cm,rfl,dU,q⟩ | ⟨x,rfl,iI,he⟩ <;> rfl
 ·obtain h:=h
  refine ⟨_,(A2 (B6 (D9 (Bj (Ap (Mc K) (by rfl) T.cM boot_isinstance (A0 (pv 0) (A0 (Xh (by rfl) T.eE boot_str) A3))))) (A5 (D8 F4 rfl (by rfl) T.iM T.e_NoRow (A0 Ab A3))) Ae) (A2 (Al (i:=1) Ik.nd rfl (Or.inl rfl) (E3 PySem.F.plainAttrs_str PySem.F.slot_str_split PySem.F.type_str_split X2 (pv 0) (A0 Ab A3))) (A2 (Al (i:=2) Ik.nd rfl (Or.inl rfl) C5) (A2 (Df (PW.pt (Zd (An Ci (Au (Aw K) (pv 1) A7 (fun _ _=>rfl)) Ab (Am _)) (Fx (An (Ie hr) (Fn (Fs K) (pv 1) (F2 (Qp Lw A7)) (F2 (Qp Lw A7))) (Ck (A0 Ab A3)) (Am _))))) (A2 (Al (i:=2) Ik.nd rfl (Or.inl rfl) (Au (Aw K) (C7 nS (hr.mono (by decide)) rfl T.ud T.k_x21 nU .nil E2 (A0 (Fn (Fs K) (pv 1) (F2 (Qp Lw A7)) Oi) A3)) A7 (fun _ _=>rfl))) (A5 (Al (i:=1) Ik.nd rfl (Or.inl rfl) (Fn (Fs K) (pv 1) Oi (F2 (Qp Lw A7)))))) Ae) (A2 (Al (i:=3) Ik.nd rfl (Or.inl rfl) (C7 nS (hr.mono (by decide)) rfl T.ud T.k_x21 nU .nil E2 (A0 (Fn (Fs K) (pv 1) (F2 A7) Oi) A3))) (A2 (B6 (D9 (Bj (Ad qp (hr.mono (by decide)) rfl T.JM T.k_x45 qq .nil Ar (A0 (Au (Aw K) (pv 1) A7 (fun _ _=>rfl)) (A0 (Ap (C6 K) (by rfl) T.eR PySem.boot_len (A0 (pv 3) A3)) A3))))) (A5 (D8 F4 rfl (by rfl) T.iM T.e_NoRow (A0 Ab A3))) Ae) (A5 (Af (D0 (A0 (Au (Aw K) (pv 1) A7 (fun _ _=>rfl)) (A0 (pv 3) (A0 (pv 2) A3)))))))))))),?_⟩
  rcases h with ⟨x,hd,ns,cm,rfl,dU,q⟩ | ⟨x,rfl,iI,he⟩
  ·refine ⟨_,rfl,_,"str","str",true,rfl,.str x,Gf,_,rfl,Az rfl ?_⟩
   refine ⟨_,rfl,rfl,x,_,rfl,rfl,by decide,dU.len,fun W hW=>?_⟩
   rw [dU.cut]
   have s1:A6 H (upd H W (.lst ((hd :: (ns.map Bq ++ Cl cm)).map V.str))):=A6.upd hW
   have e1:(upd H W (.lst ((hd :: (ns.map Bq ++ Cl cm)).map V.str))) W = some (.lst ((hd :: (ns.map Bq ++ Cl cm)).map V.str)):=A1
   generalize upd H W (.lst ((hd :: (ns.map Bq ++ Cl cm)).map V.str)) = H1 at s1 e1 ⊢
   have XR:∀ w ∈ hd :: (ns.map Bq ++ Cl cm),PyData.strOk w = true:=fun w hw=>by
    rcases List.mem_cons.mp hw with z | z
    ·rw [z]
     exact dU.ok
    ·rcases List.mem_append.mp z with z | z
     ·obtain ⟨n,hn,rfl⟩ := List.mem_map.mp z
      exact Dw (dU.big n hn)
     ·cases cm with
      | none=>cases z
      | some c =>
       rcases List.mem_cons.mp z with z | z
       ·rw [z]
        decide +kernel
       ·rw [List.mem_singleton.mp z]
        exact Dw (dU.calm c rfl).1
   refine ⟨_,rfl,W,_,_,.str hd,rfl,rfl,.inl (B5.of e1),Zr,rfl,_,rfl,(fun d H'=>d = cm.isSome /\ A6 H1 H'),fun hc=>?_,fun hc=>?_,?_⟩
   ·have eZ:hd ≠ Str.ofString "hall" := fun z=>by simp [z] at hc
    cases cm with
    | none=>exact ⟨rfl,A6.refl _⟩
    | some c=>exact absurd (dU.calm c rfl).2 eZ
   ·have hh:hd = Str.ofString "hall" := by simpa using hc
    refine ⟨_,rfl,_,rfl,_,rfl,_,rfl,_,rfl,W,_,rfl,B5.of e1,fun sl nV=>?_⟩
    rw [Dv]
    have s2:A6 H1 (upd H1 sl (.lst ((Dq (hd :: (ns.map Bq ++ Cl cm)) (some (-2)) (some (-1))).map V.str))):=A6.upd nV
    have e2:(upd H1 sl (.lst ((Dq (hd :: (ns.map Bq ++ Cl cm)) (some (-2)) (some (-1))).map V.str))) sl = some (.lst ((Dq (hd :: (ns.map Bq ++ Cl cm)) (some (-2)) (some (-1))).map V.str)):=A1
    generalize upd H1 sl (.lst ((Dq (hd :: (ns.map Bq ++ Cl cm)) (some (-2)) (some (-1))).map V.str)) = H2 at s2 e2 ⊢
    refine ⟨Bi,fun cl pV=>?_⟩
    have s3:A6 H2 (upd H2 cl (.lst [.str "calm"])):=A6.upd pV
    refine ⟨_,_,Jz (s3 _ _ e2) (fun w hw=>XR w (List.mem_of_mem_drop (List.mem_of_mem_take hw))),Jz (ss:=[Str.ofString "calm"]) A1 (fun w hw=>by rw [List.mem_singleton.mp hw]; decide +kernel),Kc _,_,rfl,?_,s2.trans s3⟩
    show PyData.eqv _ _ = _
    rw [Q4]
    cases cm with
    | none =>
     refine decide_eq_false (Ue fun z=>?_)
     rcases List.mem_cons.mp z with z | z
     ·rw [hh] at z
      exact absurd z (by decide)
     ·rcases List.mem_append.mp z with z | z
      ·obtain ⟨n,hn,e⟩ := List.mem_map.mp z
       exact V0 (dU.big n hn) (by decide) e
      ·cases z
    | some c =>
     refine decide_eq_true ?_
     show Dq ((hd :: ns.map Bq) ++ [Str.ofString "calm",Bq c]) _ _ = _
     exact (Ps _ _ _).1
   rintro d H2 ⟨rfl,s2⟩
   have e2:=s2 _ _ e1
   refine ⟨(fun σ' H'=>∃ W':Addr,σ' = [some (.str x),some (.ref W'),some (vO cm),none] /\ A6 H H' /\ H' W' = some (.lst ((hd :: ns.map Bq).map V.str))),fun hb=>?_,fun hb=>?_,?_⟩
   ·obtain ⟨c,rfl⟩ : ∃ c,cm = some c:=Option.isSome_iff_exists.mp hb
    have LL:=Ps (hd :: ns.map Bq) (Str.ofString "calm") (Bq c)
    refine ⟨_,rfl,_,rfl,_,rfl,W,_,rfl,B5.of e2,fun sl nV=>?_⟩
    rw [Dv,show Dq (hd :: (ns.map Bq ++ Cl (some c))) (some (-1)) none = [Bq c] from LL.2.1]
    have s3:A6 H2 (upd H2 sl (.lst ([Bq c].map V.str))):=A6.upd nV
    have e3:(upd H2 sl (.lst ([Bq c].map V.str))) sl = some (.lst ([Bq c].map V.str)):=A1
    generalize upd H2 sl (.lst ([Bq c].map V.str)) = H3 at s3 e3 ⊢
    refine ⟨E,fun _ _ _ z=>z,.inl ⟨sl,[c],rfl,e3,(fun n hn=>by rw [List.mem_singleton.mp hn]; exact (dU.calm c rfl).1),(by show 1 <= 300; decide),fun l H4 hl s4 el=>?_⟩⟩
    refine ⟨l,_,_,_,rfl,rfl,.inl (B5.of el),rfl,?_⟩
    refine ⟨_,rfl,_,rfl,_,rfl,W,_,rfl,B5.of (s4 _ _ (s3 _ _ e2)),fun W2 qf=>?_⟩
    rw [Dv,show Dq (hd :: (ns.map Bq ++ Cl (some c))) none (some (-2)) = hd :: ns.map Bq from LL.2.2]
    exact ⟨W2,rfl,(((s1.trans s2).trans s3).trans s4).trans (A6.upd qf),A1⟩
   ·have hn:cm = none:=by simpa using hb
    subst hn
    refine ⟨W,rfl,s1.trans s2,?_⟩
    rw [show ns.map Bq ++ Cl none = ns.map Bq from List.append_nil _] at e2
    exact e2
   rintro σ' H3 ⟨W',rfl,s3,e3⟩
   refine ⟨_,rfl,_,rfl,W',_,rfl,B5.of e3,fun sl nV=>?_⟩
   rw [Dv,Pt]
   have s4:A6 H3 (upd H3 sl (.lst ((ns.map Bq).map V.str))):=A6.upd nV
   have e4:(upd H3 sl (.lst ((ns.map Bq).map V.str))) sl = some (.lst ((ns.map Bq).map V.str)):=A1
   generalize upd H3 sl (.lst ((ns.map Bq).map V.str)) = H4 at s4 e4 ⊢
   refine ⟨E,fun _ _ _ z=>z,.inl ⟨sl,ns,rfl,e4,dU.big,dU.GR,fun l H5 hl s5 el=>?_⟩⟩
   have e5:=s5 _ _ (s4 _ _ e3)
   refine ⟨_,rfl,W',_,_,.str hd,rfl,rfl,.inl (B5.of e5),Zr,_,rfl,l,_,rfl,.inl (B5.of el),hd,_,rfl,_,rfl,?_⟩
   refine Az (by rw [List.length_map,dU.tak]; rfl) ?_
   refine ⟨_,rfl,W',_,_,.str hd,rfl,rfl,.inl (B5.of e5),Zr,_,rfl,_,rfl,Bi,fun p hp=>?_⟩
   exact q p l _ (((s3.trans s4).trans s5).trans (A6.upd hp)) A1 ((A6.upd hp) _ _ el)
  ·obtain ⟨hlen,hd,ws,XS,LM,aS,oS,mK,XT⟩ := iI
   refine ⟨_,rfl,_,"str","str",true,rfl,.str x,Gf,_,rfl,Az rfl ?_⟩
   refine ⟨_,rfl,rfl,x,_,rfl,rfl,by decide,hlen,fun W hW=>?_⟩
   rw [XS]
   have s1:A6 H (upd H W (.lst ((hd :: ws).map V.str))):=A6.upd hW
   have e1:(upd H W (.lst ((hd :: ws).map V.str))) W = some (.lst ((hd :: ws).map V.str)):=A1
   generalize upd H W (.lst ((hd :: ws).map V.str)) = H1 at s1 e1 ⊢
   refine ⟨_,rfl,W,_,_,.str hd,rfl,rfl,.inl (B5.of e1),Zr,rfl,_,rfl,(fun d H'=>d = false /\ A6 H1 H'),fun hc=>⟨rfl,A6.refl _⟩,fun hc=>?_,?_⟩
   ·have hh:hd = Str.ofString "hall" := by simpa using hc
    refine ⟨_,rfl,_,rfl,_,rfl,_,rfl,_,rfl,W,_,rfl,B5.of e1,fun sl nV=>?_⟩
    rw [Dv]
    have s2:A6 H1 (upd H1 sl (.lst ((Dq (hd :: ws) (some (-2)) (some (-1))).map V.str))):=A6.upd nV
    have e2:(upd H1 sl (.lst ((Dq (hd :: ws) (some (-2)) (some (-1))).map V.str))) sl = some (.lst ((Dq (hd :: ws) (some (-2)) (some (-1))).map V.str)):=A1
    generalize upd H1 sl (.lst ((Dq (hd :: ws) (some (-2)) (some (-1))).map V.str)) = H2 at s2 e2 ⊢
    refine ⟨Bi,fun cl pV=>?_⟩
    have s3:A6 H2 (upd H2 cl (.lst [.str "calm"])):=A6.upd pV
    refine ⟨_,_,Jz (s3 _ _ e2) (fun w hw=>aS w (List.mem_of_mem_drop (List.mem_of_mem_take hw))),Jz (ss:=[Str.ofString "calm"]) A1 (fun w hw=>by rw [List.mem_singleton.mp hw]; decide +kernel),Kc _,_,rfl,?_,s2.trans s3⟩
    show PyData.eqv _ _ = _
    rw [Q4]
    rcases LM with z | z
    ·exact absurd hh z
    ·exact decide_eq_false z
   rintro d H2 ⟨rfl,s2⟩
   have e2:=s2 _ _ e1
   refine ⟨(fun σ' H'=>σ' = [some (.str x),some (.ref W),some .cZ,none] /\ H' = H2),(fun hb=>nomatch hb),fun hb=>⟨rfl,rfl⟩,?_⟩
   rintro σ' H2 ⟨rfl,rfl⟩
   refine ⟨_,rfl,_,rfl,W,_,rfl,B5.of e2,fun sl nV=>?_⟩
   rw [Dv,Pt]
   have s4:A6 H2 (upd H2 sl (.lst (ws.map V.str))):=A6.upd nV
   have e4:(upd H2 sl (.lst (ws.map V.str))) sl = some (.lst (ws.map V.str)):=A1
   generalize upd H2 sl (.lst (ws.map V.str)) = H4 at s4 e4 ⊢
   have sH:=(s1.trans s2).trans s4
   rcases XT with iI | ⟨ns,rfl,lW,QR⟩
   ·exact ⟨E,fun _ _ _ z=>z,.inr ⟨sl,ws,rfl,e4,mK,oS,iI,fun H9 s9=>he H9 (sH.trans s9)⟩⟩
   rw [List.length_map] at mK
   refine ⟨E,fun _ _ _ z=>z,.inl ⟨sl,ns,rfl,e4,lW,mK,fun l H5 hl s5 el=>?_⟩⟩
   have e5:=s5 _ _ (s4 _ _ e2)
   refine ⟨_,rfl,W,_,_,.str hd,rfl,rfl,.inl (B5.of e5),Zr,_,rfl,l,_,rfl,.inl (B5.of el),hd,_,rfl,_,rfl,?_⟩
   exact Cm (by rw [List.length_map,QR]; rfl) ⟨Ef,fun H9 s9=>he H9 ((sH.trans s5).trans s9)⟩
def S6 (K:PySem.W.Frag):Sp:=fun vs H Q _=>∃ (a:Addr) (ns:List Int),vs = [.ref a] /\ (H a = some (.lst (ns.map V.int)) \/ H a = some (.tup (ns.map V.int))) /\ (∀ n ∈ ns,0 <= n /\ n < 10 ^ 100) /\ ns.length <= 300 /\ ∀ H',A6 H H' -> Q (.str (Qk ns)) H'
theorem bu {fd  : FuncData} (T:Txt K mg aX aV aY bJ cO bA cP aW bB bC cN bK bL bM cQ bN cR bD bE bO bG bH bP bQ bR bS bT cS cT bU cU cV bV cW bI bW bX bZ cA cB cC aZ cD cE cF cH cJ aC aA aE aB aD aI aK aL aM aO aP aN aF aJ aH aG) (F:Dn K "numbers_text" "numbers_text" La bT fd):A9 P w K mg base (Ax P w) 1 bT fd ["numbers"] (S6 K):=by
 refine F.okN ef (fun vs H Q E h=>?_) (fun dB A outer s H vs Q E hr h=>?_)
 ·rcases h with ⟨a,ns,rfl,ha,hb,hl,q⟩ <;> rfl
 ·obtain ⟨a,ns,rfl,ha,hb,hl,q⟩ := h
  refine ⟨_,(A5 (Af (E3 PySem.F.plainAttrs_str PySem.F.slot_str_join PySem.F.type_str_join (Od K) Ab (A0 (Dk (Dc (pv 0)) _ rfl Gn rfl rfl (fun _ _ _ _=>(Av (i:=0) Gy rfl (Or.inl rfl))) (fun _ _ _ _=>Cr) (fun _ _ _ _=>(Bg Bd (by rfl) T.eE boot_str (A0 (pv 0) A3)))) A3)))),?_⟩
  rcases ha with ha | ha
  ·refine ⟨rfl,_,rfl,a,rfl,.inl ⟨⟨_,B5.of ha⟩,fun D hD=>?_⟩⟩
   refine De (K:=K) (a:=a) (xs:=ns.map V.int) (fun i ys H'=>ys = ((ns.take i).map Bq).map V.str /\ H' D = some (.lst ys) /\ A6 H H') ⟨rfl,A1,A6.upd hD⟩ (fun i ys H' _ ⟨_,_,s⟩=>B5.of (s _ _ ha)) ?_ ?_
   ·rintro i v ys H1 hv ⟨rfl,fK,s1⟩ Qe hQ
    rw [List.getElem?_map] at hv
    obtain ⟨n,hn,rfl⟩ := Option.map_eq_some_iff.mp hv
    have hi:=(List.getElem?_eq_some_iff.mp hn).1
    refine ⟨_,rfl,n,rfl,Cp (hb n (List.mem_of_getElem? hn)),hQ _ _ fK (B3 (by rw [List.length_map,List.length_map,List.length_take]; omega)) ⟨?_,A1,s1.new hD⟩⟩
    rw [List.take_add_one,hn,List.map_append,List.map_append]
    rfl
   rintro ys H1 ⟨rfl,fK,s1⟩
   rw [List.length_map,List.take_length] at fK
   refine ⟨_,D,ns.map Bq,rfl,rfl,B5.of fK,by rw [List.length_map]; omega,(fun z hz=>?_),by decide,q H1 s1⟩
   obtain ⟨n,hn,rfl⟩ := List.mem_map.mp hz
   exact Nat.le_trans (Db (hb n hn).1 (hb n hn).2).len (by decide)
  ·refine ⟨rfl,_,rfl,a,rfl,.inr ⟨⟨_,Bw.of ha⟩,fun D hD=>?_⟩⟩
   refine K5 (K:=K) (a:=a) (xs:=ns.map V.int) (fun i ys H'=>ys = ((ns.take i).map Bq).map V.str /\ H' D = some (.lst ys) /\ A6 H H') ⟨rfl,A1,A6.upd hD⟩ (fun i ys H' _ ⟨_,_,s⟩=>Bw.of (s _ _ ha)) ?_ ?_
   ·rintro i v ys H1 hv ⟨rfl,fK,s1⟩ Qe hQ
    rw [List.getElem?_map] at hv
    obtain ⟨n,hn,rfl⟩ := Option.map_eq_some_iff.mp hv
    have hi:=(List.getElem?_eq_some_iff.mp hn).1
    refine ⟨_,rfl,n,rfl,Cp (hb n (List.mem_of_getElem? hn)),hQ _ _ fK (B3 (by rw [List.length_map,List.length_map,List.length_take]; omega)) ⟨?_,A1,s1.new hD⟩⟩
    rw [List.take_add_one,hn,List.map_append,List.map_append]
    rfl
   rintro ys H1 ⟨rfl,fK,s1⟩
   rw [List.length_map,List.take_length] at fK
   refine ⟨_,D,ns.map Bq,rfl,rfl,B5.of fK,by rw [List.length_map]; omega,(fun z hz=>?_),by decide,q H1 s1⟩
   obtain ⟨n,hn,rfl⟩ := List.mem_map.mp hz
   exact Nat.le_trans (Db (hb n hn).1 (hb n hn).2).len (by decide)
def Y6 (K:PySem.W.Frag) (aC aA aE aB aD aF:Addr):Sp:=fun vs H Q _=>∃ (x dx:Addr),vs = [.ref x] /\ H x = some (.ins aF dx []) /\ ∀ H',Da x H H' -> H' x = some (.ins aF dx (Cg .cZ .cZ .cZ .cZ)) -> Q .cZ H'
theorem ik {fd  : FuncData} (T:Txt K mg aX aV aY bJ cO bA cP aW bB bC cN bK bL bM cQ bN cR bD bE bO bG bH bP bQ bR bS bT cS cT bU cU cV bV cW bI bW bX bZ cA cB cC aZ cD cE cF cH cJ aC aA aE aB aD aI aK aL aM aO aP aN aF aJ aH aG) (F:Dn K "__init__" "Desk.__init__" Vj cS fd):A9 P w K mg base (Ax P w) 1 cS fd ["self"] (Y6 K aC aA aE aB aD aF):=by
 refine F.okN jg (fun vs H Q E h=>?_) (fun dB A outer s H vs Q E hr h=>?_)
 ·rcases h with ⟨x,dx,rfl,hx,q⟩ <;> rfl
 ·obtain ⟨x,dx,rfl,hx,q⟩ := h
  refine ⟨_,(A2 (F3 (pv 0) C5 rfl) (A2 (F3 (pv 0) C5 rfl) (A2 (F3 (pv 0) C5 rfl) (A5 (F3 (pv 0) C5 rfl))))),?_⟩
  refine ⟨_,rfl,x,_,dx,_,rfl,hx,T.aR,T.cY,(by show 0 < 1000; decide),?_⟩
  refine ⟨_,rfl,x,_,dx,_,rfl,A1,T.aR,T.aQ,(by show 1 < 1000; decide),?_⟩
  refine ⟨_,rfl,x,_,dx,_,rfl,A1,T.aR,T.dA,(by show 2 < 1000; decide),?_⟩
  refine ⟨_,rfl,x,_,dx,_,rfl,A1,T.aR,T.fM,(by show 3 < 1000; decide),?_⟩
  rw [Hj,Hj,Hj]
  exact q _ Da.ins A1
def Y0 (K:PySem.W.Frag) (aC aA aE aB aD aF:Addr):Sp:=fun vs H Q _=>∃ (x dx:Addr) (hv sv tv wv:V) (w:Str),vs = [.ref x,.str w] /\ H x = some (.ins aF dx (Cg hv sv tv wv)) /\ (w = Str.ofString "turn" -> wv ≠ .cZ) /\ (Pe (.str w) [.str "hall",.str "wheel",.str "turn"] = false -> hv ≠ .cZ) /\ ∀ H',A6 H H' -> Q .cZ H'
theorem ia {fd  : FuncData} (T:Txt K mg aX aV aY bJ cO bA cP aW bB bC cN bK bL bM cQ bN cR bD bE bO bG bH bP bQ bR bS bT cS cT bU cU cV bV cW bI bW bX bZ cA cB cC aZ cD cE cF cH cJ aC aA aE aB aD aI aK aL aM aO aP aN aF aJ aH aG) (F:Dn K "refuse_without_stand" "Desk.refuse_without_stand" Vd cT fd):A9 P w K mg base (Ax P w) 1 cT fd ["self","word"] (Y0 K aC aA aE aB aD aF):=by
 refine F.okN jc (fun vs H Q E h=>?_) (fun dB A outer s H vs Q E hr h=>?_)
 ·rcases h with ⟨x,dx,hv,sv,tv,wv,w,rfl,hx,h1,h2,q⟩ <;> rfl
 ·obtain ⟨x,dx,hv,sv,tv,wv,w,rfl,hx,h1,h2,q⟩ := h
  refine ⟨_,(A2 (B6 (PW.pt (Hg (An Ci (pv 1) Ab (Am _)) (Fx (An Kw (C4 (pv 0) rfl) C5 (Am _))))) (A5 E4) Ae) (A5 (B6 (PW.pt (Hg (An (V6 K) (pv 1) (D0 (A0 Ab (A0 Ab (A0 Ab A3)))) rfl) (Fx (An Kw (C4 (pv 0) rfl) C5 (Am _))))) (A5 E4) Ae))),?_⟩
  refine ⟨_,rfl,rfl,_,rfl,decide (wv = .cZ),(fun _ Q' z=>⟨_,rfl,x,_,dx,_,wv,rfl,hx,T.aR,T.fM,rfl,rfl,_,rfl,z⟩),Az ?_ ?_⟩
  ·rw [Bool.and_eq_false_iff,decide_eq_false_iff_not,decide_eq_false_iff_not]
   by_cases z:w = Str.ofString "turn"
   ·exact .inr (h1 z)
   ·exact .inl fun y=>z (by injection y)
  refine ⟨_,rfl,Bi,fun p hp=>?_⟩
  have s1:A6 H (upd H p (.tup [.str "hall",.str "wheel",.str "turn"])):=A6.upd hp
  have e1:(upd H p (.tup [.str "hall",.str "wheel",.str "turn"])) p = some (.tup [.str "hall",.str "wheel",.str "turn"]):=A1
  generalize upd H p (.tup [.str "hall",.str "wheel",.str "turn"]) = H1 at s1 e1 ⊢
  refine ⟨p,_,rfl,.inr (Bw.of e1),rfl,rfl,_,rfl,decide (hv = .cZ),(fun _ Q' z=>⟨_,rfl,x,_,dx,_,hv,rfl,s1 _ _ hx,T.aR,T.cY,rfl,rfl,_,rfl,z⟩),Az ?_ (q _ s1)⟩
  show (!Pe (.str w) [.str "hall",.str "wheel",.str "turn"] && decide (hv = .cZ)) = false
  rw [Bool.and_eq_false_iff,Bool.not_eq_false',decide_eq_false_iff_not]
  cases z:Pe (.str w) [.str "hall",.str "wheel",.str "turn"] with
  | true=>exact .inl rfl
  | false=>exact .inr (h2 z)
def Sm (K:PySem.W.Frag) (aC aA aE aB aD aF:Addr):Sp:=fun vs H Q _=>∃ (x dx:Addr) (h0 s0 t0 w hv sv tv:V),vs = [.ref x,hv,sv,tv] /\ H x = some (.ins aF dx (Cg h0 s0 t0 w)) /\ Q .cZ (upd H x (.ins aF dx (Cg hv sv tv w)))
theorem cy {fd  : FuncData} (T:Txt K mg aX aV aY bJ cO bA cP aW bB bC cN bK bL bM cQ bN cR bD bE bO bG bH bP bQ bR bS bT cS cT bU cU cV bV cW bI bW bX bZ cA cB cC aZ cD cE cF cH cJ aC aA aE aB aD aI aK aL aM aO aP aN aF aJ aH aG) (F:Dn K "put" "Desk.put" Nd bU fd):A9 P w K mg base (Ax P w) 1 bU fd ["self","hall","standing","table"] (Sm K aC aA aE aB aD aF):=by
 refine F.okN fe (fun vs H Q E h=>?_) (fun dB A outer s H vs Q E hr h=>?_)
 ·rcases h with ⟨x,dx,h0,s0,t0,w,hv,sv,tv,rfl,hx,q⟩ <;> rfl
 ·obtain ⟨x,dx,h0,s0,t0,w,hv,sv,tv,rfl,hx,q⟩ := h
  refine ⟨_,(A2 (F3 (pv 0) (pv 1) rfl) (A2 (F3 (pv 0) (pv 2) rfl) (A5 (F3 (pv 0) (pv 3) rfl)))),?_⟩
  refine ⟨_,rfl,_,rfl,x,_,dx,_,rfl,hx,T.aR,T.cY,(by show 4 < 1000; decide),?_⟩
  refine ⟨_,rfl,_,rfl,x,_,dx,_,rfl,A1,T.aR,T.aQ,(by show 4 < 1000; decide),?_⟩
  refine ⟨_,rfl,_,rfl,x,_,dx,_,rfl,A1,T.aR,T.dA,(by show 4 < 1000; decide),?_⟩
  rw [Hj,Hj]
  exact q
def Y7 (K:PySem.W.Frag) (aC aA aE aB aD aF:Addr):Sp:=fun vs H Q E=>(∃ (x dx a:Addr) (h0 s0 t0 w:V) (ws:List Int) (cm:Option Int),vs = [.ref x,.ref a] /\ H x = some (.ins aF dx (Cg h0 s0 t0 w)) /\ Aq H a ws cm /\ D3 ws cm /\ ∀ (tv:List ((List Int × Int) × V)) (H':Hp),Da x H H' -> Ba aF H' x dx ws cm ws 0 tv w -> Ct ws cm tv -> Q (.str (G8 tv (ws,0))) H') \/ (∃ (x dx a:Addr) (h0 s0 t0 w:V) (ws:List Int) (cm:Option Int),vs = [.ref x,.ref a] /\ H x = some (.ins aF dx (Cg h0 s0 t0 w)) /\ Aq H a ws cm /\ (∀ w ∈ ws,intBits w <= 256) /\ intBits (qv cm) <= 256 /\ ws.length <= 8 /\ 3000 < B7 (qv cm) ws /\ ∀ H2,A6 H H2 -> E (.ref aB) none H2)
theorem il {fd jA qr dQ:FuncData} (T:Txt K mg aX aV aY bJ cO bA cP aW bB bC cN bK bL bM cQ bN cR bD bE bO bG bH bP bQ bR bS bT cS cT bU cU cV bV cW bI bW bX bZ cA cB cC aZ cD cE cF cH cJ aC aA aE aB aD aI aK aL aM aO aP aN aF aJ aH aG) (F:Dn K "new_hall" "Desk.new_hall" Vk cU fd) (jB:A9 P w K mg base (Ax P w) 7 bD jA ["hall"] (P5 K aC aA aE aB aD aF)) (jC:Ah K jA ["hall"] []) (qt:A9 P w K mg base (Ax P w) 1 bU qr ["self","hall","standing","table"] (Sm K aC aA aE aB aD aF)) (qu:Ah K qr ["self","hall","standing","table"] []) (dX:A9 P w K mg base (Ax P w) 1 aV dQ ["hall"] (Gk K)) (dY:Ah K dQ ["hall"] []):A9 P w K mg base (Ax P w) 8 cU fd ["self","hall"] (Y7 K aC aA aE aB aD aF):=by
 refine F.lZ a6 (fun vs H Q E h=>?_) (fun dB A outer s H vs Q E hr h=>?_)
 ·rcases h with ⟨x,dx,a,h0,s0,t0,w,ws,cm,rfl,hx,ha,aS,q⟩ | ⟨x,dx,a,h0,s0,t0,w,ws,cm,rfl,hx,ha,lR,gY,h8,hp,he⟩ <;> rfl
 ·obtain h:=h
  refine ⟨_,(A2 (Al (i:=2) a6.nd rfl (Or.inl rfl) (C7 jB (hr.mono (by decide)) rfl T.pz T.k_x43 jC .nil E2 (A0 (pv 1) A3))) (A2 (Cf (Jy (pv 0) T.aR T.JU qt (hr.mono (by decide)) qu .nil Ar (A0 (pv 1) (A0 (Ad dX (hr.mono (by decide)) rfl T.iT T.k_x23 dY .nil Ar (A0 (pv 1) A3)) (A0 (pv 2) A3))))) (A2 (B6 (Ih (Ig (Fl hr) (C4 (pv 0) rfl) (pv 2)) rfl) (A5 (Af (As Cn Ab (Bg Bd (by rfl) T.eE boot_str (A0 (Fv (Fl hr) (pv 2) (C4 (pv 0) rfl) (fun _ _=>rfl)) A3))))) Ae) (A5 (Af Ab))))),?_⟩
  rcases h with ⟨x,dx,a,h0,s0,t0,w,ws,cm,rfl,hx,ha,aS,q⟩ | ⟨x,dx,a,h0,s0,t0,w,ws,cm,rfl,hx,ha,lR,gY,h8,hp,he⟩
  ·have GS : 1 <= qv cm /\ qv cm <= 3001 := by
    cases cm with
    | none=>exact ⟨Int.le_refl _,by decide⟩
    | some c =>
     have:=aS.2.1 c rfl
     show 1 <= c + 1 /\ c + 1 <= 3001
     omega
   refine ⟨_,rfl,E,fun _ _ _ z=>z,.inl ⟨a,ws,cm,rfl,ha,(fun w hw=>(aS.1 w hw).1),GS.1,(fun w hw=>Nat.le_trans (Jt (n:=12) (by have:=aS.1 w hw; omega)) (by decide)),Nat.le_trans (Jt (n:=12) (by omega)) (by decide),aS.2.2.2.1,aS.2.2.2.2,fun TB tv H1 hTB s1 eT HC LN LO=>?_⟩⟩
   have dR:Ct ws cm tv:=⟨HC,LN,LO⟩
   refine ⟨_,rfl,x,dx,_,rfl,s1 _ _ hx,rfl,_,rfl,_,rfl,a,ws,cm,rfl,ha.same s1,fun b H2 s2 hb=>?_⟩
   have gO:=s2 _ _ (s1 _ _ hx)
   refine ⟨_,rfl,x,dx,h0,s0,t0,w,_,_,_,rfl,gO,?_⟩
   have b3:Da x H2 (upd H2 x (.ins aF dx (Cg (.ref a) (.ref b) (.ref TB) w))):=Da.ins
   have e3:(upd H2 x (.ins aF dx (Cg (.ref a) (.ref b) (.ref TB) w))) x = some (.ins aF dx (Cg (.ref a) (.ref b) (.ref TB) w)):=A1
   generalize upd H2 x (.ins aF dx (Cg (.ref a) (.ref b) (.ref TB) w)) = H3 at b3 e3 ⊢
   have RV:=((ha.same s1).same s2).but b3 gO
   have uK:=hb.but b3 gO
   have XU:=b3.dT gO (s2 _ _ eT)
   have bb:=((Da.of (x:=x) s1).trans (Da.of s2)).trans b3
   have hD:Ba aF H3 x dx ws cm ws 0 tv w:=⟨a,b,TB,e3,RV,uK,XU⟩
   have q0:=q tv H3 bb hD dR
   unfold G8 at q0
   refine ⟨_,rfl,x,_,dx,_,.ref b,rfl,e3,T.aR,T.aQ,rfl,_,rfl,TB,_,rfl,D5.t XU (show G3 H3 b (ws,0) from uK),_,rfl,?_⟩
   cases hv:Ao tv (ws,0) with
   | none =>
    refine Az rfl ?_
    rw [hv] at q0
    exact q0
   | some v =>
    obtain ⟨m,rfl,_⟩ := HC.1 _ _ hv
    have hm:=Fy dR hv
    have dg:D5 H3 TB (.ref b) (some (.int m)):=by
     rw [<- hv]
     exact D5.t XU (show G3 H3 b (ws,0) from uK)
    rw [hv] at q0
    have hl:=(Db (n:=m) (by omega) (by omega)).len
    refine Cm rfl ⟨_,rfl,_,rfl,x,_,dx,_,.ref b,rfl,e3,T.aR,T.aQ,rfl,TB,_,rfl,dg,m,rfl,Cp ⟨by omega,by omega⟩,_,_,rfl,rfl,?_,q0⟩
    show (Str.ofString "broken within ").length + (Bq m).length <= sizeLine
    exact Nat.le_trans (Nat.add_le_add_left hl _) (by decide)
  ·exact ⟨_,rfl,E,fun _ _ _ z=>z,.inr ⟨a,ws,cm,rfl,ha,lR,gY,h8,hp,he⟩⟩
def Y5 (K:PySem.W.Frag) (aC aA aE aB aD aF:Addr):Sp:=fun vs H Q _=>∃ (x dx:Addr) (ws ls:List Int) (cm:Option Int) (q:Int) (tv:List ((List Int × Int) × V)) (w:V),vs = [.ref x] /\ Ba aF H x dx ws cm ls q tv w /\ Ct ws cm tv /\ Q (.str (E5 tv (ls,q))) H
theorem ij {fd  : FuncData} (T:Txt K mg aX aV aY bJ cO bA cP aW bB bC cN bK bL bM cQ bN cR bD bE bO bG bH bP bQ bR bS bT cS cT bU cU cV bV cW bI bW bX bZ cA cB cC aZ cD cE cF cH cJ aC aA aE aB aD aI aK aL aM aO aP aN aF aJ aH aG) (F:Dn K "rank_text" "Desk.rank_text" Vi cV fd):A9 P w K mg base (Ax P w) 1 cV fd ["self"] (Y5 K aC aA aE aB aD aF):=by
 refine F.okN jf (fun vs H Q E h=>?_) (fun dB A outer s H vs Q E hr h=>?_)
 ·rcases h with ⟨x,dx,ws,ls,cm,n,tv,w,rfl,hD,dR,q⟩ <;> rfl
 ·obtain ⟨x,dx,ws,ls,cm,n,tv,w,rfl,hD,dR,q⟩ := h
  refine ⟨_,(A2 (B6 (Ih (Ig (Fl hr) (C4 (pv 0) rfl) (C4 (pv 0) rfl)) rfl) (A5 (Af (Bg Bd (by rfl) T.eE boot_str (A0 (Fv (Fl hr) (C4 (pv 0) rfl) (C4 (pv 0) rfl) (fun _ _=>rfl)) A3)))) Ae) (A5 (Af Ab))),?_⟩
  obtain ⟨a,b,TB,hx,ha,hb,hT⟩ := hD
  unfold E5 at q
  refine ⟨_,rfl,x,_,dx,_,.ref b,rfl,hx,T.aR,T.aQ,rfl,_,rfl,x,_,dx,_,.ref TB,rfl,hx,T.aR,T.dA,rfl,TB,_,rfl,D5.t hT (show G3 H b (ls,n) from hb),_,rfl,?_⟩
  cases hv:Ao tv (ls,n) with
  | none =>
   rw [hv] at q
   exact Az rfl q
  | some v =>
   obtain ⟨m,rfl,_⟩ := dR.1.1 _ _ hv
   have hm:=Fy dR hv
   have dg:D5 H TB (.ref b) (some (.int m)):=by
    rw [<- hv]
    exact D5.t hT (show G3 H b (ls,n) from hb)
   rw [hv] at q
   exact Cm rfl ⟨_,rfl,x,_,dx,_,.ref TB,rfl,hx,T.aR,T.dA,rfl,_,rfl,x,_,dx,_,.ref b,rfl,hx,T.aR,T.aQ,rfl,TB,_,rfl,dg,m,rfl,Cp ⟨by omega,by omega⟩,q⟩
def S7 (K:PySem.W.Frag) (aC aA aE aB aD aF:Addr):Sp:=fun vs H Q _=>∃ (x dx:Addr) (ws ls:List Int) (cm:Option Int) (q:Int) (tv:List ((List Int × Int) × V)) (w:V) (who:Nat) (lost:Bool),vs = [.ref x,.int who,.bl lost] /\ Ba aF H x dx ws cm ls q tv w /\ who < ws.length /\ D3 ws cm /\ (ls,q) ∈ Bc ws (qv cm) /\ K3 cm q lost /\
 ∀ H',Da x H H' -> Ba aF H' x dx ws cm (G9 ws ls cm q who lost).1 (G9 ws ls cm q who lost).2 tv w -> Q (.str (Qy ws ls cm q who lost)) H'
theorem bv {fd mV dQ qw dJ:FuncData} (T:Txt K mg aX aV aY bJ cO bA cP aW bB bC cN bK bL bM cQ bN cR bD bE bO bG bH bP bQ bR bS bT cS cT bU cU cV bV cW bI bW bX bZ cA cB cC aZ cD cE cF cH cJ aC aA aE aB aD aI aK aL aM aO aP aN aF aJ aH aG) (F:Dn K "do_turn" "Desk.do_turn" Mz bV fd) (qx:A9 P w K mg base (Ax P w) 4 bC mV ["hall","standing","who","lost"] (Sa K aC aA aE aB aD aF)) (qy:Ah K mV ["hall","standing","who","lost"] []) (eV:Ah K mV ["hall","standing","who","lost"] [Value.bool false]) (dX:A9 P w K mg base (Ax P w) 1 aV dQ ["hall"] (Gk K)) (dY:Ah K dQ ["hall"] []) (nW:A9 P w K mg base (Ax P w) 1 bT qw ["numbers"] (S6 K)) (nX:Ah K qw ["numbers"] []) (eG:A9 P w K mg base (Ax P w) 4 aW dJ ["hall","standing","who","lost"] (Ip K aC aA aE aB aD aF)) (eU:Ah K dJ ["hall","standing","who","lost"] []) (dC:Ah K dJ ["hall","standing","who","lost"] [Value.bool false]):A9 P w K mg base (Ax P w) 5 bV fd ["self","who","lost"] (S7 K aC aA aE aB aD aF):=by
 refine F.okN Xs (fun vs H Q E h=>?_) (fun dB A outer s H vs Q E hr h=>?_)
 ·rcases h with ⟨x,dx,ws,ls,cm,n,tv,w,who,lost,rfl,hD,hw,aS,iE,hm,q⟩ <;> rfl
 ·obtain ⟨x,dx,ws,ls,cm,n,tv,w,who,lost,rfl,hD,hw,aS,iE,hm,q⟩ := h
  refine ⟨_,(A2 (Al (i:=3) Xs.nd rfl (Or.inl rfl) (Ad qx (hr.mono (by decide)) rfl T.JE T.k_x16 qy .nil Ar (A0 (C4 (pv 0) rfl) (A0 (C4 (pv 0) rfl) (A0 (pv 1) (A0 (pv 2) A3)))))) (A2 (B6 (Qq (pv 3) (by intro _; rfl)) (A2 (F3 (pv 0) (Ad dX (hr.mono (by decide)) rfl T.iT T.k_x23 dY .nil Ar (A0 (C4 (pv 0) rfl) A3)) rfl) (A5 (Af (As Cn Ab (Ad nW (hr.mono (by decide)) rfl T.ue T.k_x11 nX .nil Ar (A0 (pv 3) A3)))))) Ae) (A2 (F3 (pv 0) (Ad eG (hr.mono (by decide)) rfl T.jT T.k_x42 eU .nil Ar (A0 (C4 (pv 0) rfl) (A0 (C4 (pv 0) rfl) (A0 (pv 1) (A0 (pv 2) A3))))) rfl) (A5 (Af (As Cn (As Cn (As Cn Ab (Ad nW (hr.mono (by decide)) rfl T.ue T.k_x11 nX .nil Ar (A0 (Au (Aw K) (C4 (pv 0) rfl) A7 (fun _ _=>rfl)) A3))) Ab) (Bg Bd (by rfl) T.eE boot_str (A0 (Au (Aw K) (C4 (pv 0) rfl) A7 (fun _ _=>rfl)) A3)))))))),?_⟩
  obtain ⟨a,b,TB,hx,ha,hb,hT⟩ := hD
  obtain ⟨m1,m2,m3,m4⟩ := Ir iE
  have m1:ls.length = ws.length:=m1
  have h8:=aS.2.2.2.1
  have hll:(Be ws ls who lost).length = ws.length:=(F0 _ _ _ _).trans m1
  refine ⟨_,rfl,x,_,dx,_,.ref a,rfl,hx,T.aR,T.cY,rfl,_,rfl,x,_,dx,_,.ref b,rfl,hx,T.aR,T.aQ,rfl,_,rfl,_,rfl,.inl ⟨a,b,ws,ls,cm,n,who,lost,rfl,ha,hb,hw,m1,h8,hm,fun l H1 hl s1 el=>?_⟩⟩
  have wY:=R8 (L:=Be ws ls who lost) (i:=ws.length) (by omega)
  rw [show (Be ws ls who lost).take ws.length = Be ws ls who lost from List.take_of_length_le (by omega)] at wY
  have mC:=s1 _ _ hx
  refine ⟨_,rfl,_,.inl ⟨_,B5.of el,rfl⟩,?_⟩
  refine E9 (fun RX=>?_) (fun RX=>?_)
  ·have hz : (0 : Int) ∈ Be ws ls who lost := Classical.byContradiction fun z => by
    rw [wY.mpr z] at RX
    exact absurd RX (by decide)
   refine ⟨_,rfl,x,_,dx,_,.ref a,rfl,mC,T.aR,T.cY,rfl,a,ws,cm,rfl,ha.same s1,fun b2 H2 s2 gY=>?_⟩
   have gO:=s2 _ _ mC
   refine ⟨_,rfl,x,_,dx,_,rfl,gO,T.aR,T.aQ,(by show 4 < 1000; decide),?_⟩
   rw [L7]
   have b3:Da x H2 (upd H2 x (.ins aF dx (Cg (.ref a) (.ref b2) (.ref TB) w))):=Da.ins
   have e3:(upd H2 x (.ins aF dx (Cg (.ref a) (.ref b2) (.ref TB) w))) x = some (.ins aF dx (Cg (.ref a) (.ref b2) (.ref TB) w)):=A1
   generalize upd H2 x (.ins aF dx (Cg (.ref a) (.ref b2) (.ref TB) w)) = H3 at b3 e3 ⊢
   have bb:=((Da.of (x:=x) s1).trans (Da.of s2)).trans b3
   have hbr:∀ y ∈ Dp (Be ws ls who lost) ws.length,0 <= y /\ y < 10 ^ 100:=fun y hy=>by
    unfold Dp at hy
    obtain ⟨i,hi,e⟩ := List.mem_filterMap.mp hy
    have sm:=List.mem_range.mp hi
    split at e
    ·have e':(i:Int) = y:=Option.some.inj e
     omega
    ·cases e
   have hbl:=Eh (Be ws ls who lost) ws.length
   have q0:=fun H' (s:A6 H3 H')=>q H' (bb.trans (Da.of s))
   unfold G9 Qy at q0
   rw [if_pos hz,if_pos hz] at q0
   refine ⟨_,rfl,l,_,rfl,.inl (b3.lst gO (s2 _ _ el)),hbr,by omega,fun H4 s4=>?_⟩
   refine ⟨_,_,rfl,rfl,?_,q0 H4 s4 (Ba.same s4 ⟨a,b2,TB,e3,((ha.same s1).same s2).but b3 gO,gY.but b3 gO,b3.dT gO (s2 _ _ (s1 _ _ hT))⟩)⟩
   exact Nat.le_trans (Nat.add_le_add_left (Ql hbr (by omega)) _) (by decide)
  ·have hz : (0 : Int) ∉ Be ws ls who lost := wY.mp (by
    cases wZ:Dp (Be ws ls who lost) ws.length with
    | nil=>rfl
    | cons a r=>exact absurd (by rw [wZ]; rfl) RX)
   have hlb:∀ y ∈ Be ws ls who lost,0 <= y /\ y < 10 ^ 100:=fun y hy=>by
    have key:0 <= y /\ y <= 3000:=by
     have h1:∀ y ∈ ls.map (fun x=>x - 1),0 <= y /\ y <= 3000:=fun y hy=>by
      obtain ⟨z,hz,rfl⟩ := List.mem_map.mp hy
      obtain ⟨i,hi,e⟩ := List.getElem_of_mem hz
      have:=m2 i z ws[i] (by rw [<- e]; exact List.getElem?_eq_getElem hi) (List.getElem?_eq_getElem (by omega))
      have:=aS.1 ws[i] (List.getElem_mem _)
      omega
     unfold Be at hy
     split at hy
     ·exact h1 y hy
     ·rcases List.mem_or_eq_of_mem_set hy with z | z
      ·exact h1 y z
      ·rw [z,List.getD_eq_getElem?_getD,List.getElem?_eq_getElem hw]
       have:=aS.1 ws[who] (List.getElem_mem _)
       show 0 <= ws[who] /\ ws[who] <= 3000
       omega
    omega
   have lU:0 <= Cv cm n lost /\ Cv cm n lost < 10 ^ 100:=by
    have h3:qv cm <= 3001:=by
     cases cm with
     | none=>decide
     | some c =>
      have:=aS.2.1 c rfl
      show c + 1 <= 3001
      omega
    unfold Cv
    split
    ·cases cm with
     | none=>exact ⟨Int.le_refl _,by decide⟩
     | some c =>
      have:=aS.2.1 c rfl
      show 0 <= c /\ c < _
      omega
    ·simp only at m4
     omega
   refine ⟨_,rfl,x,_,dx,_,.ref a,rfl,mC,T.aR,T.cY,rfl,_,rfl,x,_,dx,_,.ref b,rfl,mC,T.aR,T.aQ,rfl,_,rfl,_,rfl,.inl ⟨a,b,ws,ls,cm,n,who,lost,rfl,ha.same s1,hb.same s1,hw,m1,h8,hm,(fun z=>absurd z hz),fun _ b2 H2 s2 gY=>?_⟩⟩
   have gO:=s2 _ _ mC
   refine ⟨_,rfl,x,_,dx,_,rfl,gO,T.aR,T.aQ,(by show 4 < 1000; decide),?_⟩
   rw [L7]
   have b3:Da x H2 (upd H2 x (.ins aF dx (Cg (.ref a) (.ref b2) (.ref TB) w))):=Da.ins
   have e3:(upd H2 x (.ins aF dx (Cg (.ref a) (.ref b2) (.ref TB) w))) x = some (.ins aF dx (Cg (.ref a) (.ref b2) (.ref TB) w)):=A1
   generalize upd H2 x (.ins aF dx (Cg (.ref a) (.ref b2) (.ref TB) w)) = H3 at b3 e3 ⊢
   have bb:=((Da.of (x:=x) s1).trans (Da.of s2)).trans b3
   have q0:=fun H' (s:A6 H3 H')=>q H' (bb.trans (Da.of s))
   unfold G9 Qy at q0
   rw [if_neg hz,if_neg hz] at q0
   have uK:=gY.but b3 gO
   obtain ⟨u,LP,XW⟩ := id uK
   refine ⟨_,rfl,x,_,dx,_,.ref b2,rfl,e3,T.aR,T.aQ,rfl,b2,_,_,_,rfl,rfl,.inr (Bw.of LP),rfl,u,_,rfl,.inr XW,hlb,by omega,fun H4 s4=>?_⟩
   have RE:=Ql hlb (by omega)
   have hql:=(Db lU.1 lU.2).len
   refine ⟨_,_,rfl,rfl,?_,_,_,rfl,rfl,?_,_,rfl,x,_,dx,_,.ref b2,rfl,s4 _ _ e3,T.aR,T.aQ,rfl,b2,_,_,_,rfl,rfl,.inr (Bw.of (s4 _ _ LP)),rfl,_,rfl,Cp lU,_,_,rfl,rfl,?_,q0 H4 s4 (Ba.same s4 ⟨a,b2,TB,e3,((ha.same s1).same s2).but b3 gO,uK,b3.dT gO (s2 _ _ (s1 _ _ hT))⟩)⟩
   ·exact Nat.le_trans (Nat.add_le_add_left RE _) (by decide)
   ·rw [K1]
    exact Nat.le_trans (Nat.add_le_add_right (Nat.add_le_add_left RE _) _) (by decide)
   ·rw [K1,K1]
    exact Nat.le_trans (Nat.add_le_add (Nat.add_le_add_right (Nat.add_le_add_left RE _) _) hql) (by decide)
def Y4 (K:PySem.W.Frag) (aC aA aE aB aD aF:Addr):Sp:=fun vs H Q E=>∃ (x dx:Addr) (hd:Str) (i:Int),vs = [.ref x,.str hd,.int i] /\ ((∃ (ws ls:List Int) (cm:Option Int) (q:Int) (tv:List ((List Int × Int) × V)) (w:V) (who:Nat) (lost:Bool),hd = Iv lost /\ i = (who:Int) /\ Ba aF H x dx ws cm ls q tv w /\ who < ws.length /\ D3 ws cm /\ (ls,q) ∈ Bc ws (qv cm) /\ K3 cm q lost /\
 ∀ H',Da x H H' -> Ba aF H' x dx ws cm (G9 ws ls cm q who lost).1 (G9 ws ls cm q who lost).2 tv w -> Q (.str (Qy ws ls cm q who lost)) H') \/ (∃ (ws ls:List Int) (cm:Option Int) (q:Int) (tv:List ((List Int × Int) × V)) (w:V) (who:Nat),hd = Str.ofString "answer" /\ i = (who:Int) /\ Ba aF H x dx ws cm ls q tv w /\ Pj tv /\ who < ws.length /\ ls.length = ws.length /\ ws.length <= 8 /\ ∀ H',A6 H H' -> Q (.str (if Ds tv ws ls cm q who = true then Str.ofString "lost" else Str.ofString "reached")) H') \/ (∃ (ws ls:List Int) (cm:Option Int) (q:Int) (tv:List ((List Int × Int) × V)) (w:V),hd = Str.ofString "answer" /\ Ba aF H x dx ws cm ls q tv w /\ ¬ (0 <= i /\ i < (ws.length:Int)) /\ ∀ H2,A6 H H2 -> E (.ref aA) none H2))
theorem ii {fd jD qz:FuncData} (T:Txt K mg aX aV aY bJ cO bA cP aW bB bC cN bK bL bM cQ bN cR bD bE bO bG bH bP bQ bR bS bT cS cT bU cU cV bV cW bI bW bX bZ cA cB cC aZ cD cE cF cH cJ aC aA aE aB aD aI aK aL aM aO aP aN aF aJ aH aG) (F:Dn K "told_of_one" "Desk.told_of_one" Vh cW fd) (kB:A9 P w K mg base (Ax P w) 5 bH jD ["hall","table","standing","who"] (P0 K aC aA aE aB aD aF)) (kC:Ah K jD ["hall","table","standing","who"] []) (qA:A9 P w K mg base (Ax P w) 5 bV qz ["self","who","lost"] (S7 K aC aA aE aB aD aF)) (qB:Ah K qz ["self","who","lost"] []):A9 P w K mg base (Ax P w) 6 cW fd ["self","word","number"] (Y4 K aC aA aE aB aD aF):=by
 refine F.lZ je (fun vs H Q E h=>?_) (fun dB A outer s H vs Q E hr h=>?_)
 ·rcases h with ⟨x,dx,hd,i,rfl,hk⟩ <;> rfl
 ·obtain ⟨x,dx,hd,i,rfl,hk⟩ := h
  refine ⟨_,(A2 (B6 (An Ci (pv 1) Ab (Am _)) (A2 E4 (A5 E4)) Ae) (A2 (B6 (An Ci (pv 1) Ab (Am _)) (A5 (Af (Qn (Bj (C7 kB (hr.mono (by decide)) rfl T.uc T.k_x10 kC .nil E2 (A0 (C4 (pv 0) rfl) (A0 (C4 (pv 0) rfl) (A0 (C4 (pv 0) rfl) (A0 (pv 2) A3)))))) Ab Ab))) Ae) (A2 (B6 (An Ci (pv 1) Ab (Am _)) (A5 E4) Ae) (A2 (B6 (An Ci (pv 1) Ab (Am _)) (A5 E4) Ae) (A5 (Af (Jy (pv 0) T.aR T.JV qA (hr.mono (by decide)) qB .nil Ar (A0 (pv 2) (A0 (Bk Ci (pv 1) Ab (Am _)) A3))))))))),?_⟩
  rcases hk with ⟨ws,ls,cm,n,tv,w,who,lost,rfl,rfl,hD,hw,aS,iE,hm,q⟩ | ⟨ws,ls,cm,n,tv,w,who,rfl,rfl,hD,lC,hw,hl,h8,q⟩ | ⟨ws,ls,cm,n,tv,w,rfl,hD,iI,he⟩
  ·obtain ⟨a,b,TB,hx,ha,hb,hT⟩ := id hD
   refine ⟨_,rfl,rfl,_,rfl,Az (by cases lost <;> decide) ?_⟩
   refine ⟨_,rfl,rfl,_,rfl,Az (by cases lost <;> decide) ?_⟩
   refine ⟨_,rfl,rfl,_,rfl,Az (by cases lost <;> decide) ?_⟩
   refine ⟨_,rfl,rfl,_,rfl,Az (by cases lost <;> decide) ?_⟩
   have el:decide (V.str (Iv lost) = V.str (Str.ofString "lost")) = lost:=by cases lost <;> decide
   have e0:[V.ref x,V.int (who:Int),V.bl (decide (V.str (Iv lost) = V.str (Str.ofString "lost")))] = [V.ref x,V.int (who:Int),V.bl lost]:=by rw [el]
   exact ⟨_,rfl,x,dx,_,rfl,hx,rfl,_,rfl,_,rfl,rfl,x,dx,ws,ls,cm,n,tv,w,who,lost,e0,hD,hw,aS,iE,hm,q⟩
  ·obtain ⟨a,b,TB,hx,ha,hb,hT⟩ := id hD
   refine ⟨_,rfl,rfl,_,rfl,Az (by decide) ?_⟩
   refine ⟨_,rfl,rfl,_,rfl,Cm (by decide) ?_⟩
   refine ⟨_,rfl,x,_,dx,_,.ref a,rfl,hx,T.aR,T.cY,rfl,_,rfl,x,_,dx,_,.ref TB,rfl,hx,T.aR,T.dA,rfl,_,rfl,x,_,dx,_,.ref b,rfl,hx,T.aR,T.aQ,rfl,_,rfl,E,fun _ _ _ z=>z,.inl ⟨a,TB,b,ws,ls,cm,n,_,who,tv,rfl,rfl,ha,hb,hT,lC,hw,hl,h8,fun H1 s1=>⟨_,rfl,?_⟩⟩⟩
   have q0:=q H1 s1
   cases oU:Ds tv ws ls cm n who with
   | true =>
    rw [oU] at q0
    exact Cm rfl q0
   | false =>
    rw [oU] at q0
    exact Az rfl q0
  ·obtain ⟨a,b,TB,hx,ha,hb,hT⟩ := id hD
   refine ⟨_,rfl,rfl,_,rfl,Az (by decide) ?_⟩
   refine ⟨_,rfl,rfl,_,rfl,Cm (by decide) ?_⟩
   exact ⟨_,rfl,x,_,dx,_,.ref a,rfl,hx,T.aR,T.cY,rfl,_,rfl,x,_,dx,_,.ref TB,rfl,hx,T.aR,T.dA,rfl,_,rfl,x,_,dx,_,.ref b,rfl,hx,T.aR,T.aQ,rfl,_,rfl,E,fun _ _ _ z=>z,.inr ⟨a,TB,b,ws,ls,cm,n,i,rfl,ha,hb,.inl ⟨iI,he⟩⟩⟩
def Im (K:PySem.W.Frag) (aC aA aE aB aD aF:Addr):Sp:=fun vs H Q E=>(∃ (x dx:Addr) (row:Str) (fs:List (Str × V)),vs = [.ref x,.str row] /\ H x = some (.ins aF dx fs) /\ T9 row /\ ∀ H2,A6 H H2 -> E (.ref aD) none H2) \/ (∃ (x dx:Addr) (row hd:Str) (ns:List Int) (cm:Option Int) (hv sv tb w:V),vs = [.ref x,.str row] /\ H x = some (.ins aF dx (Cg hv sv tb w)) /\ Fb row hd ns cm /\ (hd = Str.ofString "turn" -> w ≠ .cZ) /\ (Pe (.str hd) [.str "hall",.str "wheel",.str "turn"] = false -> hv ≠ .cZ) /\
 ((hd = Str.ofString "hall" /\ D3 ns cm /\ ∀ (tv:List ((List Int × Int) × V)) (H':Hp),Da x H H' -> Ba aF H' x dx ns cm ns 0 tv w -> Ct ns cm tv -> Q (.str (G8 tv (ns,0))) H') \/ (∃ (ws ls:List Int) (cm:Option Int) (q:Int) (tv:List ((List Int × Int) × V)),hd = Str.ofString "best" /\ Ba aF H x dx ws cm ls q tv w /\ Pj tv /\ D3 ws cm /\ ls.length = ws.length /\ ∀ (j:Nat) (H':Hp),A6 H H' -> G5 (fun i=>Pd tv ws ls cm q i) ws.length j -> Q (.str (Bq (j:Int))) H') \/ (∃ (ws ls:List Int) (cm:Option Int) (q:Int) (tv:List ((List Int × Int) × V)) (who:Nat) (lost:Bool),hd = Iv lost /\ ns = [(who:Int)] /\ Ba aF H x dx ws cm ls q tv w /\ who < ws.length /\ D3 ws cm /\ (ls,q) ∈ Bc ws (qv cm) /\ K3 cm q lost /\
 ∀ H',Da x H H' -> Ba aF H' x dx ws cm (G9 ws ls cm q who lost).1 (G9 ws ls cm q who lost).2 tv w -> Q (.str (Qy ws ls cm q who lost)) H') \/ (∃ (ws ls:List Int) (cm:Option Int) (q:Int) (tv:List ((List Int × Int) × V)) (who:Nat),hd = Str.ofString "answer" /\ ns = [(who:Int)] /\ Ba aF H x dx ws cm ls q tv w /\ Pj tv /\ who < ws.length /\ ls.length = ws.length /\ ws.length <= 8 /\ ∀ H',A6 H H' -> Q (.str (if Ds tv ws ls cm q who = true then Str.ofString "lost" else Str.ofString "reached")) H') \/ (∃ (ws ls:List Int) (cm:Option Int) (q:Int) (tv:List ((List Int × Int) × V)),hd = Str.ofString "rank" /\ Ba aF H x dx ws cm ls q tv w /\ Ct ws cm tv /\ ∀ H',A6 H H' -> Q (.str (E5 tv (ls,q))) H') \/ (∃ (ws ls:List Int) (cm:Option Int) (q:Int) (tv:List ((List Int × Int) × V)) (i:Int),hd = Str.ofString "answer" /\ ns = [i] /\ Ba aF H x dx ws cm ls q tv w /\ ¬ (0 <= i /\ i < (ws.length:Int)) /\ ∀ H2,A6 H H2 -> E (.ref aA) none H2) \/ (hd = Str.ofString "hall" /\ a9 ns cm /\ ∀ H2,A6 H H2 -> E (.ref aC) none H2) \/ (hd = Str.ofString "hall" /\ 0 < ns.length /\ ns.length <= 8 /\ (∀ x ∈ ns,1 <= x /\ intBits x <= 256) /\ (∀ c,cm = some c -> 1 <= c) /\ intBits (qv cm) <= 256 /\ 3000 < B7 (qv cm) ns /\ ∀ H2,A6 H H2 -> E (.ref aB) none H2)))
theorem cp {fd qC uL uM fN jE uN uO:FuncData} (T:Txt K mg aX aV aY bJ cO bA cP aW bB bC cN bK bL bM cQ bN cR bD bE bO bG bH bP bQ bR bS bT cS cT bU cU cV bV cW bI bW bX bZ cA cB cC aZ cD cE cF cH cJ aC aA aE aB aD aI aK aL aM aO aP aN aF aJ aH aG) (F:Dn K "told" "Desk.told" N7 bI fd) (qD:A9 P w K mg base (Ax P w) 3 bS qC ["row"] (Sl K aC aA aE aB aD aF)) (qE:Ah K qC ["row"] []) (x3:A9 P w K mg base (Ax P w) 1 cT uL ["self","word"] (Y0 K aC aA aE aB aD aF)) (x4:Ah K uL ["self","word"] []) (x5:A9 P w K mg base (Ax P w) 8 cU uM ["self","hall"] (Y7 K aC aA aE aB aD aF)) (x6:Ah K uM ["self","hall"] []) (kD:A9 P w K mg base (Ax P w) 1 aX fN ["waits","calm"] (P4 K aC aA aE aB aD aF)) (kE:Ah K fN ["waits","calm"] []) (eJ:Ah K fN ["waits","calm"] [Value.none]) (kG:A9 P w K mg base (Ax P w) 7 bG jE ["hall","table","standing"] (P3 K)) (kH:Ah K jE ["hall","table","standing"] []) (x8:A9 P w K mg base (Ax P w) 1 cV uN ["self"] (Y5 K aC aA aE aB aD aF)) (x9:Ah K uN ["self"] []) (xb:A9 P w K mg base (Ax P w) 6 cW uO ["self","word","number"] (Y4 K aC aA aE aB aD aF)) (xc:Ah K uO ["self","word","number"] []):A9 P w K mg base (Ax P w) 9 bI fd ["self","row"] (Im K aC aA aE aB aD aF):=by
 refine F.lZ Ow (fun vs H Q E h=>?_) (fun dB A outer s H vs Q E hr h=>?_)
 ·rcases h with ⟨x,dx,row,fs,rfl,hx,iI,he⟩ | ⟨x,dx,row,hd,ns,cm,hv,sv,tb,w,rfl,hx,dU,ht1,gP,hk⟩ <;> rfl
 ·obtain h:=h
  refine ⟨_,(A2 (Al (i:=2) Ow.nd rfl (Or.inl rfl) (C7 qD (hr.mono (by decide)) rfl T.JN T.k_x32 qE .nil E2 (A0 (pv 1) A3))) (A2 (Al (i:=3) Ow.nd rfl (Or.inl rfl) (Au (Aw K) (pv 2) A7 (fun _ _=>rfl))) (A2 (Al (i:=4) Ow.nd rfl (Or.inl rfl) (Au (Aw K) (pv 2) A7 (fun _ _=>rfl))) (A2 (Cf (Jy (pv 0) T.aR T.UQ x3 (hr.mono (by decide)) x4 .nil Ar (A0 (pv 3) A3))) (A2 (B6 (An Ci (pv 3) Ab (Am _)) (A5 (Af (Ky (pv 0) T.aR T.UR x5 (hr.mono (by decide)) x6 .nil E2 (A0 (C7 kD (hr.mono (by decide)) rfl T.u5 T.k_x37 kE .nil E2 (A0 (pv 4) (A0 (Au (Aw K) (pv 2) A7 (fun _ _=>rfl)) A3))) A3)))) Ae) (A2 (B6 (An Ci (pv 3) Ab (Am _)) (A5 E4) Ae) (A2 (B6 (An Ci (pv 3) Ab (Am _)) (A5 (Af (Bg Bd (by rfl) T.eE boot_str (A0 (Ad kG (hr.mono (by decide)) rfl T.u9 T.k_x25 kH .nil Ar (A0 (C4 (pv 0) rfl) (A0 (C4 (pv 0) rfl) (A0 (C4 (pv 0) rfl) A3)))) A3)))) Ae) (A2 (B6 (An Ci (pv 3) Ab (Am _)) (A5 (Af (Xg (pv 0) T.aR T.US x8 (hr.mono (by decide)) x9 .nil Ar))) Ae) (A5 (Af (Ky (pv 0) T.aR T.UP xb (hr.mono (by decide)) xc .nil E2 (A0 (pv 3) (A0 (Au (Aw K) (pv 4) A7 (fun _ _=>rfl)) A3))))))))))))),?_⟩
  rcases h with ⟨x,dx,row,fs,rfl,hx,iI,he⟩ | ⟨x,dx,row,hd,ns,cm,hv,sv,tb,w,rfl,hx,dU,ht1,gP,hk⟩
  ·exact ⟨_,rfl,E,fun _ _ _ z=>z,.inr ⟨row,rfl,iI,he⟩⟩
  refine ⟨_,rfl,E,fun _ _ _ z=>z,.inl ⟨row,hd,ns,cm,rfl,dU,fun p l H1 s1 ep el=>?_⟩⟩
  refine ⟨_,rfl,p,_,_,_,rfl,rfl,.inr (Bw.of ep),rfl,?_⟩
  refine ⟨_,rfl,p,_,_,_,rfl,rfl,.inr (Bw.of ep),rfl,?_⟩
  refine ⟨_,rfl,x,dx,_,rfl,s1 _ _ hx,rfl,_,rfl,x,dx,hv,sv,tb,w,hd,rfl,s1 _ _ hx,ht1,gP,fun H2 s2=>?_⟩
  have eC:=s1.trans s2
  have gO:=eC _ _ hx
  have XX:=s2 _ _ ep
  have uI:=s2 _ _ el
  clear s1 s2 ep el
  rcases hk with ⟨rfl,aS,q⟩ | ⟨ws,ls,oV,n,tv,rfl,hD,lC,aS,hl,q⟩ | ⟨ws,ls,oV,n,tv,who,lost,rfl,rfl,hD,hw,aS,iE,hm,q⟩ | ⟨ws,ls,oV,n,tv,who,rfl,rfl,hD,lC,hw,hl,h8,q⟩ | ⟨ws,ls,oV,n,tv,rfl,hD,dR,q⟩ | ⟨ws,ls,oV,n,tv,i,rfl,rfl,hD,iI,he⟩ | ⟨rfl,xf,he⟩ | ⟨rfl,LI,hn8,hn1,UX,lU,hp,he⟩
  ·refine ⟨_,rfl,rfl,_,rfl,Cm (by decide) ?_⟩
   refine ⟨_,rfl,x,dx,_,rfl,gO,rfl,_,rfl,_,rfl,p,_,_,_,rfl,rfl,.inr (Bw.of XX),rfl,E,fun _ _ _ z=>z,.inl ⟨l,ns,cm,rfl,uI,aS.2.2.1,aS.2.2.2.1,(fun y hy=>(aS.1 y hy).1),(fun c hc=>(aS.2.1 c hc).1),fun a H3 s3 ha=>?_⟩⟩
   exact ⟨E,fun _ _ _ z=>z,.inl ⟨x,dx,a,hv,sv,tb,w,ns,cm,rfl,s3 _ _ gO,ha,aS,fun tv H4 b4 hD dR=>q tv H4 ((Da.of (eC.trans s3)).trans b4) hD dR⟩⟩
  ·obtain ⟨a,b,TB,wZ,ha,hb,hT⟩ := Ba.same eC hD
   refine ⟨_,rfl,rfl,_,rfl,Az (by decide) ?_⟩
   refine ⟨_,rfl,rfl,_,rfl,Az (by decide) ?_⟩
   refine ⟨_,rfl,rfl,_,rfl,Cm (by decide) ?_⟩
   refine ⟨_,rfl,x,_,dx,_,.ref a,rfl,wZ,T.aR,T.cY,rfl,_,rfl,x,_,dx,_,.ref TB,rfl,wZ,T.aR,T.dA,rfl,_,rfl,x,_,dx,_,.ref b,rfl,wZ,T.aR,T.aQ,rfl,a,TB,b,ws,ls,oV,n,tv,rfl,ha,hb,hT,lC,aS.2.2.1,hl,aS.2.2.2.1,(fun y hy=>(aS.1 y hy).1),fun j H3 s3 uJ=>?_⟩
   have hj:=uJ.1
   have h8:=aS.2.2.2.1
   exact ⟨_,rfl,Cp ⟨by omega,by omega⟩,q j H3 (eC.trans s3) uJ⟩
  ·refine ⟨_,rfl,rfl,_,rfl,Az (by cases lost <;> decide) ?_⟩
   refine ⟨_,rfl,rfl,_,rfl,Az (by cases lost <;> decide) ?_⟩
   refine ⟨_,rfl,rfl,_,rfl,Az (by cases lost <;> decide) ?_⟩
   refine ⟨_,rfl,rfl,_,rfl,Az (by cases lost <;> decide) ?_⟩
   exact ⟨_,rfl,x,dx,_,rfl,gO,rfl,_,rfl,_,rfl,l,_,_,_,rfl,rfl,.inl (B5.of uI),Zr,E,fun _ _ _ z=>z,x,dx,_,_,rfl,.inl ⟨ws,ls,oV,n,tv,w,who,lost,rfl,rfl,Ba.same eC hD,hw,aS,iE,hm,fun H3 b3 sC=>q H3 ((Da.of eC).trans b3) sC⟩⟩
  ·refine ⟨_,rfl,rfl,_,rfl,Az (by decide) ?_⟩
   refine ⟨_,rfl,rfl,_,rfl,Az (by decide) ?_⟩
   refine ⟨_,rfl,rfl,_,rfl,Az (by decide) ?_⟩
   refine ⟨_,rfl,rfl,_,rfl,Az (by decide) ?_⟩
   exact ⟨_,rfl,x,dx,_,rfl,gO,rfl,_,rfl,_,rfl,l,_,_,_,rfl,rfl,.inl (B5.of uI),Zr,E,fun _ _ _ z=>z,x,dx,_,_,rfl,.inr (.inl ⟨ws,ls,oV,n,tv,w,who,rfl,rfl,Ba.same eC hD,lC,hw,hl,h8,fun H3 s3=>q H3 (eC.trans s3)⟩)⟩
  ·refine ⟨_,rfl,rfl,_,rfl,Az (by decide) ?_⟩
   refine ⟨_,rfl,rfl,_,rfl,Az (by decide) ?_⟩
   refine ⟨_,rfl,rfl,_,rfl,Az (by decide) ?_⟩
   refine ⟨_,rfl,rfl,_,rfl,Cm (by decide) ?_⟩
   obtain ⟨a,b,TB,wZ,_⟩ := Ba.same eC hD
   exact ⟨_,rfl,x,dx,_,rfl,wZ,rfl,x,dx,ws,ls,oV,n,tv,w,rfl,Ba.same eC hD,dR,q _ eC⟩
  ·refine ⟨_,rfl,rfl,_,rfl,Az (by decide) ?_⟩
   refine ⟨_,rfl,rfl,_,rfl,Az (by decide) ?_⟩
   refine ⟨_,rfl,rfl,_,rfl,Az (by decide) ?_⟩
   refine ⟨_,rfl,rfl,_,rfl,Az (by decide) ?_⟩
   exact ⟨_,rfl,x,dx,_,rfl,gO,rfl,_,rfl,_,rfl,l,_,_,_,rfl,rfl,.inl (B5.of uI),Zr,E,fun _ _ _ z=>z,x,dx,_,_,rfl,.inr (.inr ⟨ws,ls,oV,n,tv,w,rfl,Ba.same eC hD,iI,fun H3 s3=>he H3 (eC.trans s3)⟩)⟩
  ·refine ⟨_,rfl,rfl,_,rfl,Cm (by decide) ?_⟩
   exact ⟨_,rfl,x,dx,_,rfl,gO,rfl,_,rfl,_,rfl,p,_,_,_,rfl,rfl,.inr (Bw.of XX),rfl,E,fun _ _ _ z=>z,.inr ⟨l,ns,cm,rfl,uI,xf,fun H3 s3=>he H3 (eC.trans s3)⟩⟩
  ·refine ⟨_,rfl,rfl,_,rfl,Cm (by decide) ?_⟩
   refine ⟨_,rfl,x,dx,_,rfl,gO,rfl,_,rfl,_,rfl,p,_,_,_,rfl,rfl,.inr (Bw.of XX),rfl,E,fun _ _ _ z=>z,.inl ⟨l,ns,cm,rfl,uI,LI,hn8,(fun y hy=>(hn1 y hy).1),UX,fun a H3 s3 ha=>?_⟩⟩
   exact ⟨E,fun _ _ _ z=>z,.inr ⟨x,dx,a,hv,sv,tb,w,ns,cm,rfl,s3 _ _ gO,ha,(fun y hy=>(hn1 y hy).2),lU,hn8,hp,fun H4 s4=>he H4 ((eC.trans s3).trans s4)⟩⟩
def Sb (K:PySem.W.Frag):Sp:=fun vs H Q _=>∃ (a:Addr) (ns:List Int) (k:Int),vs = [.ref a,.int k] /\ B5 K H a (ns.map V.int) /\ 0 <= k /\ Q (.int (Ix ns k)) H
theorem c8 {fd  : FuncData} (T:Txt K mg aX aV aY bJ cO bA cP aW bB bC cN bK bL bM cQ bN cR bD bE bO bG bH bP bQ bR bS bT cS cT bU cU cV bV cW bI bW bX bZ cA cB cC aZ cD cE cF cH cJ aC aA aE aB aD aI aK aL aM aO aP aN aF aJ aH aG) (F:Dn K "_law_cell_at" "_law_cell_at" N2 bW fd):A9 P w K mg base (Ax P w) 1 bW fd ["script","k"] (Sb K):=by
 refine F.okN ez (fun vs H Q E h=>?_) (fun dB A outer s H vs Q E hr h=>?_)
 ·rcases h with ⟨a,ns,k,rfl,hS,hk,q⟩ <;> rfl
 ·obtain ⟨a,ns,k,rfl,hS,hk,q⟩ := h
  refine ⟨_,(A2 (B6 (An Ha (pv 1) (Ap (C6 K) (by rfl) T.eR PySem.boot_len (A0 (pv 0) A3)) (Am _)) (A5 (Af (Au (Aw K) (pv 0) (pv 1) (fun _ _=>rfl)))) Ae) (A5 (Af A7))),?_⟩
  refine ⟨_,rfl,_,rfl,a,_,rfl,.inl hS,_,_,rfl,rfl,_,rfl,?_⟩
  refine E9 (fun dE=>?_) (fun dE=>?_)
  ·have xg:k < ns.length:=by simpa using dE
   exact ⟨_,rfl,_,rfl,a,_,_,_,rfl,rfl,.inl hS,Yj hk xg,q⟩
  ·have xg:¬ k < ns.length:=by simpa using dE
   rw [Uc hk xg] at q
   exact q
def Ss (K:PySem.W.Frag):Sp:=fun vs H Q _=>∃ (c:Int),vs = [.int c] /\ intBits c <= 2 ^ 20 + 8 /\ ∀ r:Int,0 <= r -> r < 2 ^ 200 -> Q (.int r) H
theorem d8 {fd  : FuncData} (T:Txt K mg aX aV aY bJ cO bA cP aW bB bC cN bK bL bM cQ bN cR bD bE bO bG bH bP bQ bR bS bT cS cT bU cU cV bV cW bI bW bX bZ cA cB cC aZ cD cE cF cH cJ aC aA aE aB aD aI aK aL aM aO aP aN aF aJ aH aG) (F:Dn K "_law_big" "_law_big" Nj bX fd):A9 P w K mg base (Ax P w) 1 bX fd ["cell"] (Ss K):=by
 refine F.okN fg (fun vs H Q E h=>?_) (fun dB A outer s H vs Q E hr h=>?_)
 ·rcases h with ⟨c,rfl,hb,q⟩ <;> rfl
 ·obtain ⟨c,rfl,hb,q⟩ := h
  refine ⟨_,(A5 (Af (As Bt (As Tn (pv 0) A7) (As dl A7 A7)))),?_⟩
  refine ⟨_,rfl,_,_,rfl,rfl,Zw hb Ym (by decide),_,_,rfl,rfl,⟨by decide,by decide,by decide⟩,_,_,rfl,rfl,Zx,?_⟩
  have h:=Ce (c * 618033988749894848204586834365638117720309179805762862137) Zx
  exact q _ h.1 (Int.lt_trans h.2 li)
def Sn (K:PySem.W.Frag):Sp:=fun vs H Q _=>∃ n:Int,vs = [.int n] /\ 0 <= n /\ ∀ (p:Addr) (ws:List Int) (cm:Option Int) (H':Hp),A6 H H' -> Aq H' p ws cm -> D3 ws cm -> Q (.ref p) H'
theorem cz {fd fN:FuncData} (T:Txt K mg aX aV aY bJ cO bA cP aW bB bC cN bK bL bM cQ bN cR bD bE bO bG bH bP bQ bR bS bT cS cT bU cU cV bV cW bI bW bX bZ cA cB cC aZ cD cE cF cH cJ aC aA aE aB aD aI aK aL aM aO aP aN aF aJ aH aG) (F:Dn K "_law_hall" "_law_hall" Nf bZ fd) (kD:A9 P w K mg base (Ax P w) 1 aX fN ["waits","calm"] (P4 K aC aA aE aB aD aF)) (kE:Ah K fN ["waits","calm"] []) (eJ:Ah K fN ["waits","calm"] [Value.none]):A9 P w K mg base (Ax P w) 2 bZ fd ["number"] (Sn K):=by
 refine F.okN El (fun vs H Q E h=>?_) (fun dB A outer s H vs Q E hr h=>?_)
 ·rcases h with ⟨n,rfl,hn,q⟩ <;> rfl
 ·obtain ⟨n,rfl,hn,q⟩ := h
  refine ⟨_,(A2 (Al (i:=1) El.nd rfl (Or.inl rfl) A7) (A2 (Al (i:=2) El.nd rfl (Or.inl rfl) C5) (A2 (Df (An Ci (As Bt (pv 0) A7) A7 (Am _)) (A2 (Al (i:=2) El.nd rfl (Or.inl rfl) (As Ej A7 (As Bt (As C0 (pv 0) A7) A7))) (A5 (Al (i:=1) El.nd rfl (Or.inl rfl) (As C0 (pv 1) (As Ej (pv 2) A7))))) Ae) (A2 (Al (i:=0) El.nd rfl (Or.inl rfl) (As C0 (pv 0) A7)) (A2 (Al (i:=3) El.nd rfl (Or.inl rfl) (Ck A3)) (A2 (Cu PassesOwn.never rfl (D4 (by rfl) T.eA (A0 (As Ej A7 (As Bt (pv 0) A7)) A3)) (Av (i:=4) El.nd rfl (Or.inl rfl)) (A2 (Al (i:=0) El.nd rfl (Or.inl rfl) (As C0 (pv 0) A7)) (A2 (Cf (E3 PySem.F.plainAttrs_list PySem.F.slot_list_append PySem.F.type_list_append Cq (pv 3) (A0 (Ap (U8 rfl) (by rfl) T.lN boot_min (A0 (As Ej A7 (As Bt (pv 0) A7)) (A0 (pv 1) A3))) A3))) (A5 (Al (i:=1) El.nd rfl (Or.inl rfl) (As C0 (pv 1) (Au (Aw K) (pv 3) (Qp Lw A7) (fun _ _=>rfl)))))))) (A5 (Af (Ad kD (hr.mono (by decide)) rfl T.u5 T.k_x37 kE .nil Ar (A0 (pv 3) (A0 (pv 2) A3))))))))))),?_⟩
  have h11:=Ce (n / 2) (show (0:Int) < 3 by decide)
  have hJ:∀ c:Int,1 <= c -> c <= 3 -> 1 <= 16 / (c + 1) /\ 16 / (c + 1) <= 16 /\ (c + 1) * (16 / (c + 1)) <= 16:=fun c h1 h2=>by
   refine ⟨?_,Int.ediv_le_self _ (by decide),Int.mul_ediv_self_le (by omega)⟩
   rw [Int.le_ediv_iff_mul_le (by omega)]
   omega
  refine ⟨_,rfl,_,_,rfl,rfl,by simp,rfl,_,rfl,(fun σ' H'=>∃ (cm:Option Int) (room:Int),σ' = [some (.int n),some (.int room),some (vO cm),none,none] /\ H' = H /\ (∀ c,cm = some c -> 1 <= c /\ c <= 3) /\ 1 <= room /\ room <= 16 /\ qv cm * room <= 16),fun e=>?_,fun e=>?_,?_⟩
  ·have hj:=hJ (1 + n / 2 % 3) (by omega) (by omega)
   refine ⟨_,rfl,_,_,rfl,rfl,⟨by decide,by decide⟩,_,_,rfl,rfl,by simp,_,_,rfl,rfl,_,rfl,_,rfl,_,_,rfl,rfl,_,_,rfl,rfl,⟨by omega,by omega⟩,some (1 + n / 2 % 3),_,rfl,rfl,(fun c hc=>by cases hc; omega),hj.1,hj.2.1,hj.2.2⟩
  ·exact ⟨none,16,rfl,rfl,(fun c hc=>by cases hc),by decide,by decide,by decide⟩
  rintro σ' H ⟨cm,LQ,rfl,rfl,lM,uz,mB,hq0⟩
  have GS:1 <= qv cm:=by
   cases cm with
   | none=>decide
   | some c =>
    have:=lM c rfl
    show 1 <= c + 1
    omega
  refine ⟨_,rfl,_,_,rfl,rfl,⟨by decide,by decide⟩,Bi,fun W hW=>?_⟩
  have s1:A6 H (upd H W (.lst [])):=A6.upd hW
  have e1:(upd H W (.lst [])) W = some (.lst []):=A1
  generalize upd H W (.lst []) = H1 at s1 e1 ⊢
  have h3:=Ce (n / 6) (show (0:Int) < 3 by decide)
  refine ⟨_,rfl,_,_,rfl,rfl,by simp,_,_,rfl,rfl,_,rfl,by omega,by omega,?_⟩
  refine Fu (n:=(1 + n / 6 % 3).toNat) (fun i σ H'=>∃ (ws:List Int) (Bq room:Int) (v4:Option V),σ = [some (.int Bq),some (.int room),some (vO cm),some (.ref W),v4] /\ 0 <= Bq /\ ws.length = i /\ (∀ w ∈ ws,1 <= w /\ w <= 16) /\ 1 <= room /\ room <= 16 /\ B7 (qv cm) ws * room <= 16 /\ H' W = some (.lst (ws.map V.int)) /\ A6 H H')
   ⟨[],n / 6,LQ,none,rfl,by omega,rfl,(fun w hw=>by cases hw),uz,mB,hq0,e1,s1⟩ ?_ ?_
  ·rintro i σ H2 hi ⟨ws,nu,room,v4,rfl,hnu,oS,fB,hro,LR,hpr,qf,s2⟩
   have hxm:=Ce (nu / 8) (show (0:Int) < 8 by decide)
   refine ⟨_,rfl,_,_,rfl,rfl,⟨by decide,by decide⟩,?_⟩
   refine ⟨_,rfl,.inl ⟨rfl,_,B5.of qf⟩,_,rfl,_,_,rfl,rfl,by simp,_,_,rfl,rfl,_,rfl,_,_,rfl,W,_,_,rfl,rfl,qf,B3 (by rw [List.length_map]; omega),?_⟩
   have hmn:=Z4 (a:=1 + nu / 8 % 8) (b:=room)
   have h4:(upd H2 W (.lst (ws.map V.int ++ [V.int (if room < 1 + nu / 8 % 8 then room else 1 + nu / 8 % 8)]))) W = some (.lst (ws.map V.int ++ [V.int (if room < 1 + nu / 8 % 8 then room else 1 + nu / 8 % 8)])):=A1
   have RH:1 <= (if room < 1 + nu / 8 % 8 then room else 1 + nu / 8 % 8) /\ (if room < 1 + nu / 8 % 8 then room else 1 + nu / 8 % 8) <= room:=by omega
   have hq:1 <= room / (if room < 1 + nu / 8 % 8 then room else 1 + nu / 8 % 8):=by
    rw [Int.le_ediv_iff_mul_le (by omega)]
    omega
   refine ⟨_,rfl,_,rfl,_,rfl,W,_,_,_,rfl,rfl,.inl (B5.of h4),U2 _ _,_,_,rfl,rfl,⟨by omega,by omega⟩,?_⟩
   refine ⟨ws ++ [if room < 1 + nu / 8 % 8 then room else 1 + nu / 8 % 8],nu / 8,room / (if room < 1 + nu / 8 % 8 then room else 1 + nu / 8 % 8),_,rfl,by omega,Wx oS,U0 fB (by omega),hq,Int.le_trans (Int.ediv_le_self _ (by omega)) LR,?_,h4.trans (congrArg some (congrArg HO.lst (X1 _ _))),s2.new hW⟩
   clear hmn
   generalize (if room < 1 + nu / 8 % 8 then room else 1 + nu / 8 % 8) = w at h4 hq RH ⊢
   rw [Ry]
   have hp0:=Ln (a:=qv cm) (fun w hw=>(fB w hw).1) GS
   have h5:w * (room / w) <= room:=Int.mul_ediv_self_le (by omega)
   have h6:B7 (qv cm) ws * (w * (room / w)) <= B7 (qv cm) ws * room:=Int.mul_le_mul_of_nonneg_left h5 (by omega)
   rw [Int.mul_assoc]
   omega
  rintro σ H2 ⟨ws,nu,room,v4,rfl,hnu,oS,fB,hro,LR,hpr,qf,s2⟩
  have hp0:=Ln (a:=qv cm) (fun w hw=>(fB w hw).1) GS
  have hpb:B7 (qv cm) ws <= 16:=by
   have:B7 (qv cm) ws * 1 <= B7 (qv cm) ws * room:=Int.mul_le_mul_of_nonneg_left hro (by omega)
   omega
  have aS:D3 ws cm:=⟨fun w hw=>by have:=fB w hw; omega,fun c hc=>by have:=lM c hc; omega,by omega,by omega,by omega⟩
  exact ⟨_,rfl,_,rfl,.inl ⟨W,ws,cm,rfl,qf,by omega,by omega,(fun w hw=>(fB w hw).1),(fun c hc=>(lM c hc).1),fun p H3 s3 ha=>q p ws cm H3 (s2.trans s3) ha aS⟩⟩
def Su (K:PySem.W.Frag):Sp:=fun vs H Q _=>∃ (p:Addr) (ws:List Int) (cm:Option Int),vs = [.ref p] /\ Aq H p ws cm /\ D3 ws cm /\ ∀ (row:Str) (H':Hp),A6 H H' -> Fb row (Str.ofString "hall") ws cm -> Q (.str row) H'
theorem d9 {fd  : FuncData} (T:Txt K mg aX aV aY bJ cO bA cP aW bB bC cN bK bL bM cQ bN cR bD bE bO bG bH bP bQ bR bS bT cS cT bU cU cV bV cW bI bW bX bZ cA cB cC aZ cD cE cF cH cJ aC aA aE aB aD aI aK aL aM aO aP aN aF aJ aH aG) (F:Dn K "_law_row" "_law_row" Lj cA fd):A9 P w K mg base (Ax P w) 1 cA fd ["hall"] (Su K):=by
 refine F.okN S4 (fun vs H Q E h=>?_) (fun dB A outer s H vs Q E hr h=>?_)
 ·rcases h with ⟨p,ws,cm,rfl,⟨l,hp,hl⟩,aS,q⟩ <;> rfl
 ·obtain ⟨p,ws,cm,rfl,⟨l,hp,hl⟩,aS,q⟩ := h
  refine ⟨_,(A2 (Al (i:=1) S4.nd rfl (Or.inl rfl) (As Ru (Ck (A0 Ab A3)) (Dk (Dc (Au (Aw K) (pv 0) A7 (fun _ _=>rfl))) _ rfl O2 rfl rfl (fun _ _ _ _=>(Av (i:=0) Oe rfl (Or.inl rfl))) (fun _ _ _ _=>Cr) (fun _ _ _ _=>(Bg Bd (by rfl) T.eE boot_str (A0 (pv 0) A3)))))) (A2 (Df (An Hb (Au (Aw K) (pv 0) A7 (fun _ _=>rfl)) C5 (Am _)) (A5 (Al (i:=1) S4.nd rfl (Or.inl rfl) (As Ru (pv 1) (Ck (A0 Ab (A0 (Bg Bd (by rfl) T.eE boot_str (A0 (Au (Aw K) (pv 0) A7 (fun _ _=>rfl)) A3)) A3)))))) Ae) (A5 (Af (E3 PySem.F.plainAttrs_str PySem.F.slot_str_join PySem.F.type_str_join (Od K) Ab (A0 (pv 1) A3)))))),?_⟩
  have hb:∀ n ∈ ws,0 <= n /\ n < 10 ^ 100:=fun n hn=>by have:=aS.1 n hn; omega
  have h8:=aS.2.2.2.1
  have dU:=Vc (hd:=Str.ofString "hall") aS rfl
  have mK:∀ z ∈ Str.ofString "hall" :: (ws.map Bq ++ Cl cm),z.length <= 30000:=fun z hz=>by
   rcases List.mem_cons.mp hz with y | y
   ·rw [y]
    decide
   ·rcases List.mem_append.mp y with y | y
    ·obtain ⟨n,hn,rfl⟩ := List.mem_map.mp y
     exact Nat.le_trans (Db (hb n hn).1 (hb n hn).2).len (by decide)
    ·cases cm with
     | none=>cases y
     | some c =>
      have hc:0 <= c /\ c < 10 ^ 100:=by have:=aS.2.1 c rfl; omega
      rcases List.mem_cons.mp y with y | y
      ·rw [y]
       decide
      ·rw [List.mem_singleton.mp y]
       exact Nat.le_trans (Db hc.1 hc.2).len (by decide)
  refine ⟨Bi,fun hw hhw=>?_⟩
  have s1:A6 H (upd H hw (.lst [.str "hall"])):=A6.upd hhw
  have e1:(upd H hw (.lst [.str "hall"])) hw = some (.lst [.str "hall"]):=A1
  generalize upd H hw (.lst [.str "hall"]) = H1 at s1 e1 ⊢
  have VC:=s1 _ _ hp
  have sA:=s1 _ _ hl
  refine ⟨_,rfl,p,_,_,_,rfl,rfl,.inr (Bw.of VC),rfl,l,rfl,.inr ⟨⟨_,Bw.of sA⟩,fun D hD=>?_⟩⟩
  refine K5 (K:=K) (a:=l) (xs:=ws.map V.int) (fun i ys H'=>ys = ((ws.take i).map Bq).map V.str /\ H' D = some (.lst ys) /\ A6 H1 H') ⟨rfl,A1,A6.upd hD⟩ (fun i ys H' _ ⟨_,_,s⟩=>Bw.of (s _ _ sA)) ?_ ?_
  ·rintro i v ys H2 hv ⟨rfl,jL,s2⟩ Qe hQ
   rw [List.getElem?_map] at hv
   obtain ⟨n,hn,rfl⟩ := Option.map_eq_some_iff.mp hv
   have hi:=(List.getElem?_eq_some_iff.mp hn).1
   refine ⟨_,rfl,n,rfl,Cp (hb n (List.mem_of_getElem? hn)),hQ _ _ jL (B3 (by rw [List.length_map,List.length_map,List.length_take]; omega)) ⟨?_,A1,s2.new hD⟩⟩
   rw [List.take_add_one,hn,List.map_append,List.map_append]
   rfl
  rintro ys H2 ⟨rfl,jL,s2⟩
  rw [List.length_map,List.take_length] at jL
  refine ⟨hw,D,_,_,rfl,rfl,s2 _ _ e1,jL,(by rw [List.length_map,List.length_map]; show 1 + ws.length <= sizeLine; exact Nat.le_trans (show 1 + ws.length <= 9 by omega) (by decide)),fun W hW=>?_⟩
  have e3:(upd H2 W (.lst ([V.str "hall"] ++ (ws.map Bq).map V.str))) W = some (.lst ((Str.ofString "hall" :: ws.map Bq).map V.str)):=A1
  have s3:A6 H2 (upd H2 W (.lst ([V.str "hall"] ++ (ws.map Bq).map V.str))):=A6.upd hW
  generalize upd H2 W (.lst ([V.str "hall"] ++ (ws.map Bq).map V.str)) = H3 at s3 e3 ⊢
  have sE:=(s1.trans s2).trans s3
  have hp3:=sE _ _ hp
  refine ⟨_,rfl,p,_,_,_,rfl,rfl,.inr (Bw.of hp3),rfl,rfl,_,rfl,(fun σ' H'=>∃ W':Addr,σ' = [some (.ref p),some (.ref W')] /\ A6 H H' /\ H' W' = some (.lst ((Str.ofString "hall" :: (ws.map Bq ++ Cl cm)).map V.str))),fun e=>?_,fun e=>?_,?_⟩
  ·obtain ⟨c, rfl⟩ : ∃ c, cm = some c := by
    cases cm with
    | none=>exact absurd e (by decide)
    | some c=>exact ⟨c,rfl⟩
   have hc:0 <= c /\ c < 10 ^ 100:=by have:=aS.2.1 c rfl; omega
   refine ⟨_,rfl,_,rfl,p,_,_,_,rfl,rfl,.inr (Bw.of hp3),rfl,c,rfl,Cp hc,Bi,fun X hX=>?_⟩
   have s4:A6 H3 (upd H3 X (.lst [.str "calm",.str (Str.ofString (toString c))])):=A6.upd hX
   have e4:(upd H3 X (.lst [.str "calm",.str (Str.ofString (toString c))])) X = some (.lst [.str "calm",.str (Str.ofString (toString c))]):=A1
   generalize upd H3 X (.lst [.str "calm",.str (Str.ofString (toString c))]) = H4 at s4 e4 ⊢
   refine ⟨W,X,_,_,rfl,rfl,s4 _ _ e3,e4,(by rw [List.length_map,List.length_cons,List.length_map]; show ws.length + 1 + 2 <= sizeLine; exact Nat.le_trans (show ws.length + 1 + 2 <= 11 by omega) (by decide)),fun Y hY=>⟨Y,rfl,(sE.trans s4).trans (A6.upd hY),?_⟩⟩
   rw [A1,<- List.cons_append,List.map_append]
   rfl
  ·have hn : cm = none := by
    cases cm with
    | none=>rfl
    | some c=>simp [vO] at e
   subst hn
   exact ⟨W,rfl,sE,by rw [e3]; simp [Cl]⟩
  rintro σ' H4 ⟨W',rfl,s4,e4⟩
  refine ⟨rfl,_,rfl,_,W',_,rfl,rfl,B5.of e4,?_,mK,by decide,q _ H4 s4 dU⟩
  rw [List.length_cons,List.length_append,List.length_map]
  cases cm with
  | none=>show ws.length + 0 + 1 <= 500; omega
  | some c=>show ws.length + 2 + 1 <= 500; omega
def Si (K:PySem.W.Frag):Sp:=fun vs H Q _=>∃ (p TB:Addr) (ws:List Int) (cm:Option Int) (tv:List ((List Int × Int) × V)),vs = [.ref p,.ref TB] /\ Aq H p ws cm /\ H TB = some (.dT tv) /\ Ct ws cm tv /\ ∀ H',A6 H H' -> Q (.str (G8 tv (ws,0))) H'
theorem cq {fd dQ:FuncData} (T:Txt K mg aX aV aY bJ cO bA cP aW bB bC cN bK bL bM cQ bN cR bD bE bO bG bH bP bQ bR bS bT cS cT bU cU cV bV cW bI bW bX bZ cA cB cC aZ cD cE cF cH cJ aC aA aE aB aD aI aK aL aM aO aP aN aF aJ aH aG) (F:Dn K "_law_begun" "_law_begun" N8 cB fd) (dX:A9 P w K mg base (Ax P w) 1 aV dQ ["hall"] (Gk K)) (dY:Ah K dQ ["hall"] []):A9 P w K mg base (Ax P w) 2 cB fd ["hall","table"] (Si K):=by
 refine F.okN fb (fun vs H Q E h=>?_) (fun dB A outer s H vs Q E hr h=>?_)
 ·rcases h with ⟨p,TB,ws,cm,tv,rfl,ha,hT,dR,q⟩ <;> rfl
 ·obtain ⟨p,TB,ws,cm,tv,rfl,ha,hT,dR,q⟩ := h
  refine ⟨_,(A2 (B6 (Ih (Ig (Fl hr) (Ad dX (hr.mono (by decide)) rfl T.iT T.k_x23 dY .nil Ar (A0 (pv 0) A3)) (pv 1)) rfl) (A5 (Af (As Cn Ab (Bg Bd (by rfl) T.eE boot_str (A0 (Fv (Fl hr) (pv 1) (Ad dX (hr.mono (by decide)) rfl T.iT T.k_x23 dY .nil Ar (A0 (pv 0) A3)) (fun _ _=>rfl)) A3))))) Ae) (A5 (Af Ab))),?_⟩
  refine ⟨_,rfl,p,ws,cm,rfl,ha,fun b H1 s1 hb=>?_⟩
  have JA:=s1 _ _ hT
  refine ⟨_,rfl,TB,_,rfl,D5.t JA (show G3 H1 b (ws,0) from hb),_,rfl,?_⟩
  have q0:=fun H' s=>q H' (s1.trans s)
  unfold G8 at q0
  cases hv:Ao tv (ws,0) with
  | none =>
   rw [hv] at q0
   exact Az rfl (q0 H1 (A6.refl _))
  | some v =>
   obtain ⟨m,rfl,_⟩ := dR.1.1 _ _ hv
   have hm:=Fy dR hv
   have hl:=(Db (n:=m) (by omega) (by omega)).len
   rw [hv] at q0
   refine Cm rfl ⟨_,rfl,_,rfl,p,ws,cm,rfl,ha.same s1,fun b2 H2 s2 gY=>?_⟩
   have dg:D5 H2 TB (.ref b2) (some (.int m)):=by
    rw [<- hv]
    exact D5.t (s2 _ _ JA) (show G3 H2 b2 (ws,0) from gY)
   refine ⟨TB,_,rfl,dg,m,rfl,Cp ⟨by omega,by omega⟩,_,_,rfl,rfl,?_,q0 H2 s2⟩
   show (Str.ofString "broken within ").length + (Bq m).length <= sizeLine
   exact Nat.le_trans (Nat.add_le_add_left hl _) (by decide)
def So (K:PySem.W.Frag) (aC aA aE aB aD aF:Addr):Sp:=fun vs H Q _=>∃ (x C:Addr) (k:Str),vs = [.ref x] /\ H x = some (.ext (Bs x (.ref C))) /\ ((aC = C /\ k = Str.ofString "hall") \/ (aA = C /\ k = Str.ofString "listener") \/ (aB = C /\ k = Str.ofString "many") \/ (aD = C /\ k = Str.ofString "row")) /\ ∀ H',A6 H H' -> Q (.str k) H'
theorem d0 {fd  : FuncData} (T:Txt K mg aX aV aY bJ cO bA cP aW bB bC cN bK bL bM cQ bN cR bD bE bO bG bH bP bQ bR bS bT cS cT bU cU cV bV cW bI bW bX bZ cA cB cC aZ cD cE cF cH cJ aC aA aE aB aD aI aK aL aM aO aP aN aF aJ aH aG) (F:Dn K "_law_kind" "_law_kind" Ng cC fd):A9 P w K mg base (Ax P w) 1 cC fd ["e"] (So K aC aA aE aB aD aF):=by
 refine F.okN Xx (fun vs H Q E h=>?_) (fun dB A outer s H vs Q E hr h=>?_)
 ·rcases h with ⟨x,C,k,rfl,hx,hC,q⟩ <;> rfl
 ·obtain ⟨x,C,k,rfl,hx,hC,q⟩ := h
  refine ⟨_,(A2 (B6 (PW.pt (Fp (Bj (Ap (Bx K) (by rfl) T.cM boot_isinstance (A0 (pv 0) (A0 (Br (v := .ref aE) (by rfl) T.lP rfl) A3)))) (Fp (Bj (Ap (Bx K) (by rfl) T.cM boot_isinstance (A0 (pv 0) (A0 (Br (v := .ref aK) (by rfl) T.oB rfl) A3)))) (Fp (Bj (Ap (Bx K) (by rfl) T.cM boot_isinstance (A0 (pv 0) (A0 (Br (v := .ref aL) (by rfl) T.oC rfl) A3)))) (On (Bj (Ap (Bx K) (by rfl) T.cM boot_isinstance (A0 (pv 0) (A0 (Br (v := .ref aM) (by rfl) T.oE rfl) A3))))))))) (A5 (Af Ab)) Ae) (A2 (B6 (PW.pt (Fp (Bj (Ap (Bx K) (by rfl) T.cM boot_isinstance (A0 (pv 0) (A0 (Br (v := .ref aO) (by rfl) T.pC rfl) A3)))) (Fp (Bj (Ap (Bx K) (by rfl) T.cM boot_isinstance (A0 (pv 0) (A0 (Br (v := .ref aP) (by rfl) T.pD rfl) A3)))) (Fp (Bj (Ap (Bx K) (by rfl) T.cM boot_isinstance (A0 (pv 0) (A0 (Br (v := .ref aN) (by rfl) T.oF rfl) A3)))) (On (D9 (Bj (Ap (Bx K) (by rfl) T.cM boot_isinstance (A0 (pv 0) (A0 (Xh (by rfl) T.kM PyProof.Rows.Boot.«ValueError») A3)))))))))) (A5 (Af Ab)) Ae) (A2 (Al (i:=1) Xx.nd rfl (Or.inl rfl) (Ck A3)) (A2 (Df (Bj (Ap (Bx K) (by rfl) T.cM boot_isinstance (A0 (pv 0) (A0 (Br (v := .ref aC) (by rfl) T.fX rfl) A3)))) (A5 (Cf (E3 PySem.F.plainAttrs_list PySem.F.slot_list_append PySem.F.type_list_append Cq (pv 1) (A0 Ab A3)))) Ae) (A2 (Df (Bj (Ap (Bx K) (by rfl) T.cM boot_isinstance (A0 (pv 0) (A0 (Br (v := .ref aA) (by rfl) T.fY rfl) A3)))) (A5 (Cf (E3 PySem.F.plainAttrs_list PySem.F.slot_list_append PySem.F.type_list_append Cq (pv 1) (A0 Ab A3)))) Ae) (A2 (Df (Bj (Ap (Bx K) (by rfl) T.cM boot_isinstance (A0 (pv 0) (A0 (Br (v := .ref aB) (by rfl) T.jV rfl) A3)))) (A5 (Cf (E3 PySem.F.plainAttrs_list PySem.F.slot_list_append PySem.F.type_list_append Cq (pv 1) (A0 Ab A3)))) Ae) (A2 (Df (Bj (Ap (Bx K) (by rfl) T.cM boot_isinstance (A0 (pv 0) (A0 (Br (v := .ref aD) (by rfl) T.iM rfl) A3)))) (A5 (Cf (E3 PySem.F.plainAttrs_list PySem.F.slot_list_append PySem.F.type_list_append Cq (pv 1) (A0 Ab A3)))) Ae) (A5 (Af (E3 PySem.F.plainAttrs_str PySem.F.slot_str_join PySem.F.type_str_join (Od K) Ab (A0 (pv 1) A3))))))))))),?_⟩
  rcases hC with ⟨rfl,rfl⟩ | ⟨rfl,rfl⟩ | ⟨rfl,rfl⟩ | ⟨rfl,rfl⟩
  ·refine ⟨_,rfl,x,aC,_,_,_,rfl,hx,(fun _ z=>z),⟨T.xga_NoHall,T.xgt_NoHall,T.xcl_NoHall,T.xgs,T.xtk,T.xob_NoHall,T.xbe_NoHall⟩,T.j_NoHall_NoLoss,_,rfl,false,fun _ Q1 z1=>⟨_,rfl,x,aC,_,_,_,rfl,hx,(fun _ z=>z),⟨T.xga_NoHall,T.xgt_NoHall,T.xcl_NoHall,T.xgs,T.xtk,T.xob_NoHall,T.xbe_NoHall⟩,T.j_NoHall_NoWheel,_,rfl,false,fun _ Q2 z2=>⟨_,rfl,x,aC,_,_,_,rfl,hx,(fun _ z=>z),⟨T.xga_NoHall,T.xgt_NoHall,T.xcl_NoHall,T.xgs,T.xtk,T.xob_NoHall,T.xbe_NoHall⟩,T.j_NoHall_NoChain,_,rfl,false,fun _ Q3 z3=>⟨_,rfl,x,aC,_,_,_,rfl,hx,(fun _ z=>z),⟨T.xga_NoHall,T.xgt_NoHall,T.xcl_NoHall,T.xgs,T.xtk,T.xob_NoHall,T.xbe_NoHall⟩,T.j_NoHall_TooMuch,_,rfl,z3⟩,z2⟩,z1⟩,Az rfl ?_⟩
   refine ⟨_,rfl,x,aC,_,_,_,rfl,hx,(fun _ z=>z),⟨T.xga_NoHall,T.xgt_NoHall,T.xcl_NoHall,T.xgs,T.xtk,T.xob_NoHall,T.xbe_NoHall⟩,T.j_NoHall_NoPart,_,rfl,false,fun _ Q1 z1=>⟨_,rfl,x,aC,_,_,_,rfl,hx,(fun _ z=>z),⟨T.xga_NoHall,T.xgt_NoHall,T.xcl_NoHall,T.xgs,T.xtk,T.xob_NoHall,T.xbe_NoHall⟩,T.j_NoHall_Unsafe,_,rfl,false,fun _ Q2 z2=>⟨_,rfl,x,aC,_,_,_,rfl,hx,(fun _ z=>z),⟨T.xga_NoHall,T.xgt_NoHall,T.xcl_NoHall,T.xgs,T.xtk,T.xob_NoHall,T.xbe_NoHall⟩,T.j_NoHall_NoStand,_,rfl,false,fun _ Q3 z3=>⟨_,rfl,x,aC,_,_,_,rfl,hx,(fun _ z=>z),⟨T.xga_NoHall,T.xgt_NoHall,T.xcl_NoHall,T.xgs,T.xtk,T.xob_NoHall,T.xbe_NoHall⟩,T.j_NoHall_ValueError,_,rfl,z3⟩,z2⟩,z1⟩,Az rfl ?_⟩
   refine ⟨Bi,fun L hL=>?_⟩
   have s1:A6 H (upd H L (.lst [])):=A6.upd hL
   have e1:(upd H L (.lst [])) L = some (.lst []):=A1
   generalize upd H L (.lst []) = H1 at s1 e1 ⊢
   have hx:=s1 _ _ hx
   refine ⟨_,rfl,x,aC,_,_,_,rfl,hx,(fun _ z=>z),⟨T.xga_NoHall,T.xgt_NoHall,T.xcl_NoHall,T.xgs,T.xtk,T.xob_NoHall,T.xbe_NoHall⟩,T.j_NoHall_NoHall,_,rfl,(fun σ' H'=>σ' = [some (.ref x),some (.ref L)] /\ H' L = some (.lst ([.str "hall"]:List V)) /\ A6 H H' /\ H' x = some (.ext (Bs x (.ref aC)))),fun _=>?_,(fun z=>nomatch z),?_⟩
   ·refine ⟨_,rfl,.inl ⟨rfl,_,B5.of e1⟩,L,_,_,rfl,rfl,e1,B3 (by decide),rfl,A1,s1.new hL,?_⟩
    exact (A8 (Bb hx e1 HO.noConfusion)).trans hx
   clear e1 s1 hx
   rintro σ' H1 ⟨rfl,e1,s1,hx⟩
   refine ⟨_,rfl,x,aC,_,_,_,rfl,hx,(fun _ z=>z),⟨T.xga_NoHall,T.xgt_NoHall,T.xcl_NoHall,T.xgs,T.xtk,T.xob_NoHall,T.xbe_NoHall⟩,T.j_NoHall_NoListener,_,rfl,(fun σ' H'=>σ' = [some (.ref x),some (.ref L)] /\ H' L = some (.lst ([.str "hall"]:List V)) /\ A6 H H' /\ H' x = some (.ext (Bs x (.ref aC)))),(fun z=>nomatch z),fun _=>⟨rfl,e1,s1,hx⟩,?_⟩
   clear e1 s1 hx
   rintro σ' H1 ⟨rfl,e1,s1,hx⟩
   refine ⟨_,rfl,x,aC,_,_,_,rfl,hx,(fun _ z=>z),⟨T.xga_NoHall,T.xgt_NoHall,T.xcl_NoHall,T.xgs,T.xtk,T.xob_NoHall,T.xbe_NoHall⟩,T.j_NoHall_TooMany,_,rfl,(fun σ' H'=>σ' = [some (.ref x),some (.ref L)] /\ H' L = some (.lst ([.str "hall"]:List V)) /\ A6 H H' /\ H' x = some (.ext (Bs x (.ref aC)))),(fun z=>nomatch z),fun _=>⟨rfl,e1,s1,hx⟩,?_⟩
   clear e1 s1 hx
   rintro σ' H1 ⟨rfl,e1,s1,hx⟩
   refine ⟨_,rfl,x,aC,_,_,_,rfl,hx,(fun _ z=>z),⟨T.xga_NoHall,T.xgt_NoHall,T.xcl_NoHall,T.xgs,T.xtk,T.xob_NoHall,T.xbe_NoHall⟩,T.j_NoHall_NoRow,_,rfl,(fun σ' H'=>σ' = [some (.ref x),some (.ref L)] /\ H' L = some (.lst ([.str "hall"]:List V)) /\ A6 H H' /\ H' x = some (.ext (Bs x (.ref aC)))),(fun z=>nomatch z),fun _=>⟨rfl,e1,s1,hx⟩,?_⟩
   clear e1 s1 hx
   rintro σ' H1 ⟨rfl,e1,s1,hx⟩
   exact ⟨rfl,_,rfl,_,L,[Str.ofString "hall"],rfl,rfl,B5.of e1,by decide,(fun z hz=>by rw [List.mem_singleton.mp hz]; decide),by decide,q H1 s1⟩
  ·refine ⟨_,rfl,x,aA,_,_,_,rfl,hx,(fun _ z=>z),⟨T.xga_NoListener,T.xgt_NoListener,T.xcl_NoListener,T.xgs,T.xtk,T.xob_NoListener,T.xbe_NoListener⟩,T.j_NoListener_NoLoss,_,rfl,false,fun _ Q1 z1=>⟨_,rfl,x,aA,_,_,_,rfl,hx,(fun _ z=>z),⟨T.xga_NoListener,T.xgt_NoListener,T.xcl_NoListener,T.xgs,T.xtk,T.xob_NoListener,T.xbe_NoListener⟩,T.j_NoListener_NoWheel,_,rfl,false,fun _ Q2 z2=>⟨_,rfl,x,aA,_,_,_,rfl,hx,(fun _ z=>z),⟨T.xga_NoListener,T.xgt_NoListener,T.xcl_NoListener,T.xgs,T.xtk,T.xob_NoListener,T.xbe_NoListener⟩,T.j_NoListener_NoChain,_,rfl,false,fun _ Q3 z3=>⟨_,rfl,x,aA,_,_,_,rfl,hx,(fun _ z=>z),⟨T.xga_NoListener,T.xgt_NoListener,T.xcl_NoListener,T.xgs,T.xtk,T.xob_NoListener,T.xbe_NoListener⟩,T.j_NoListener_TooMuch,_,rfl,z3⟩,z2⟩,z1⟩,Az rfl ?_⟩
   refine ⟨_,rfl,x,aA,_,_,_,rfl,hx,(fun _ z=>z),⟨T.xga_NoListener,T.xgt_NoListener,T.xcl_NoListener,T.xgs,T.xtk,T.xob_NoListener,T.xbe_NoListener⟩,T.j_NoListener_NoPart,_,rfl,false,fun _ Q1 z1=>⟨_,rfl,x,aA,_,_,_,rfl,hx,(fun _ z=>z),⟨T.xga_NoListener,T.xgt_NoListener,T.xcl_NoListener,T.xgs,T.xtk,T.xob_NoListener,T.xbe_NoListener⟩,T.j_NoListener_Unsafe,_,rfl,false,fun _ Q2 z2=>⟨_,rfl,x,aA,_,_,_,rfl,hx,(fun _ z=>z),⟨T.xga_NoListener,T.xgt_NoListener,T.xcl_NoListener,T.xgs,T.xtk,T.xob_NoListener,T.xbe_NoListener⟩,T.j_NoListener_NoStand,_,rfl,false,fun _ Q3 z3=>⟨_,rfl,x,aA,_,_,_,rfl,hx,(fun _ z=>z),⟨T.xga_NoListener,T.xgt_NoListener,T.xcl_NoListener,T.xgs,T.xtk,T.xob_NoListener,T.xbe_NoListener⟩,T.j_NoListener_ValueError,_,rfl,z3⟩,z2⟩,z1⟩,Az rfl ?_⟩
   refine ⟨Bi,fun L hL=>?_⟩
   have s1:A6 H (upd H L (.lst [])):=A6.upd hL
   have e1:(upd H L (.lst [])) L = some (.lst []):=A1
   generalize upd H L (.lst []) = H1 at s1 e1 ⊢
   have hx:=s1 _ _ hx
   refine ⟨_,rfl,x,aA,_,_,_,rfl,hx,(fun _ z=>z),⟨T.xga_NoListener,T.xgt_NoListener,T.xcl_NoListener,T.xgs,T.xtk,T.xob_NoListener,T.xbe_NoListener⟩,T.j_NoListener_NoHall,_,rfl,(fun σ' H'=>σ' = [some (.ref x),some (.ref L)] /\ H' L = some (.lst ([]:List V)) /\ A6 H H' /\ H' x = some (.ext (Bs x (.ref aA)))),(fun z=>nomatch z),fun _=>⟨rfl,e1,s1,hx⟩,?_⟩
   clear e1 s1 hx
   rintro σ' H1 ⟨rfl,e1,s1,hx⟩
   refine ⟨_,rfl,x,aA,_,_,_,rfl,hx,(fun _ z=>z),⟨T.xga_NoListener,T.xgt_NoListener,T.xcl_NoListener,T.xgs,T.xtk,T.xob_NoListener,T.xbe_NoListener⟩,T.j_NoListener_NoListener,_,rfl,(fun σ' H'=>σ' = [some (.ref x),some (.ref L)] /\ H' L = some (.lst ([.str "listener"]:List V)) /\ A6 H H' /\ H' x = some (.ext (Bs x (.ref aA)))),fun _=>?_,(fun z=>nomatch z),?_⟩
   ·refine ⟨_,rfl,.inl ⟨rfl,_,B5.of e1⟩,L,_,_,rfl,rfl,e1,B3 (by decide),rfl,A1,s1.new hL,?_⟩
    exact (A8 (Bb hx e1 HO.noConfusion)).trans hx
   clear e1 s1 hx
   rintro σ' H1 ⟨rfl,e1,s1,hx⟩
   refine ⟨_,rfl,x,aA,_,_,_,rfl,hx,(fun _ z=>z),⟨T.xga_NoListener,T.xgt_NoListener,T.xcl_NoListener,T.xgs,T.xtk,T.xob_NoListener,T.xbe_NoListener⟩,T.j_NoListener_TooMany,_,rfl,(fun σ' H'=>σ' = [some (.ref x),some (.ref L)] /\ H' L = some (.lst ([.str "listener"]:List V)) /\ A6 H H' /\ H' x = some (.ext (Bs x (.ref aA)))),(fun z=>nomatch z),fun _=>⟨rfl,e1,s1,hx⟩,?_⟩
   clear e1 s1 hx
   rintro σ' H1 ⟨rfl,e1,s1,hx⟩
   refine ⟨_,rfl,x,aA,_,_,_,rfl,hx,(fun _ z=>z),⟨T.xga_NoListener,T.xgt_NoListener,T.xcl_NoListener,T.xgs,T.xtk,T.xob_NoListener,T.xbe_NoListener⟩,T.j_NoListener_NoRow,_,rfl,(fun σ' H'=>σ' = [some (.ref x),some (.ref L)] /\ H' L = some (.lst ([.str "listener"]:List V)) /\ A6 H H' /\ H' x = some (.ext (Bs x (.ref aA)))),(fun z=>nomatch z),fun _=>⟨rfl,e1,s1,hx⟩,?_⟩
   clear e1 s1 hx
   rintro σ' H1 ⟨rfl,e1,s1,hx⟩
   exact ⟨rfl,_,rfl,_,L,[Str.ofString "listener"],rfl,rfl,B5.of e1,by decide,(fun z hz=>by rw [List.mem_singleton.mp hz]; decide),by decide,q H1 s1⟩
  ·refine ⟨_,rfl,x,aB,_,_,_,rfl,hx,(fun _ z=>z),⟨T.xga_TooMany,T.xgt_TooMany,T.xcl_TooMany,T.xgs,T.xtk,T.xob_TooMany,T.xbe_TooMany⟩,T.j_TooMany_NoLoss,_,rfl,false,fun _ Q1 z1=>⟨_,rfl,x,aB,_,_,_,rfl,hx,(fun _ z=>z),⟨T.xga_TooMany,T.xgt_TooMany,T.xcl_TooMany,T.xgs,T.xtk,T.xob_TooMany,T.xbe_TooMany⟩,T.j_TooMany_NoWheel,_,rfl,false,fun _ Q2 z2=>⟨_,rfl,x,aB,_,_,_,rfl,hx,(fun _ z=>z),⟨T.xga_TooMany,T.xgt_TooMany,T.xcl_TooMany,T.xgs,T.xtk,T.xob_TooMany,T.xbe_TooMany⟩,T.j_TooMany_NoChain,_,rfl,false,fun _ Q3 z3=>⟨_,rfl,x,aB,_,_,_,rfl,hx,(fun _ z=>z),⟨T.xga_TooMany,T.xgt_TooMany,T.xcl_TooMany,T.xgs,T.xtk,T.xob_TooMany,T.xbe_TooMany⟩,T.j_TooMany_TooMuch,_,rfl,z3⟩,z2⟩,z1⟩,Az rfl ?_⟩
   refine ⟨_,rfl,x,aB,_,_,_,rfl,hx,(fun _ z=>z),⟨T.xga_TooMany,T.xgt_TooMany,T.xcl_TooMany,T.xgs,T.xtk,T.xob_TooMany,T.xbe_TooMany⟩,T.j_TooMany_NoPart,_,rfl,false,fun _ Q1 z1=>⟨_,rfl,x,aB,_,_,_,rfl,hx,(fun _ z=>z),⟨T.xga_TooMany,T.xgt_TooMany,T.xcl_TooMany,T.xgs,T.xtk,T.xob_TooMany,T.xbe_TooMany⟩,T.j_TooMany_Unsafe,_,rfl,false,fun _ Q2 z2=>⟨_,rfl,x,aB,_,_,_,rfl,hx,(fun _ z=>z),⟨T.xga_TooMany,T.xgt_TooMany,T.xcl_TooMany,T.xgs,T.xtk,T.xob_TooMany,T.xbe_TooMany⟩,T.j_TooMany_NoStand,_,rfl,false,fun _ Q3 z3=>⟨_,rfl,x,aB,_,_,_,rfl,hx,(fun _ z=>z),⟨T.xga_TooMany,T.xgt_TooMany,T.xcl_TooMany,T.xgs,T.xtk,T.xob_TooMany,T.xbe_TooMany⟩,T.j_TooMany_ValueError,_,rfl,z3⟩,z2⟩,z1⟩,Az rfl ?_⟩
   refine ⟨Bi,fun L hL=>?_⟩
   have s1:A6 H (upd H L (.lst [])):=A6.upd hL
   have e1:(upd H L (.lst [])) L = some (.lst []):=A1
   generalize upd H L (.lst []) = H1 at s1 e1 ⊢
   have hx:=s1 _ _ hx
   refine ⟨_,rfl,x,aB,_,_,_,rfl,hx,(fun _ z=>z),⟨T.xga_TooMany,T.xgt_TooMany,T.xcl_TooMany,T.xgs,T.xtk,T.xob_TooMany,T.xbe_TooMany⟩,T.j_TooMany_NoHall,_,rfl,(fun σ' H'=>σ' = [some (.ref x),some (.ref L)] /\ H' L = some (.lst ([]:List V)) /\ A6 H H' /\ H' x = some (.ext (Bs x (.ref aB)))),(fun z=>nomatch z),fun _=>⟨rfl,e1,s1,hx⟩,?_⟩
   clear e1 s1 hx
   rintro σ' H1 ⟨rfl,e1,s1,hx⟩
   refine ⟨_,rfl,x,aB,_,_,_,rfl,hx,(fun _ z=>z),⟨T.xga_TooMany,T.xgt_TooMany,T.xcl_TooMany,T.xgs,T.xtk,T.xob_TooMany,T.xbe_TooMany⟩,T.j_TooMany_NoListener,_,rfl,(fun σ' H'=>σ' = [some (.ref x),some (.ref L)] /\ H' L = some (.lst ([]:List V)) /\ A6 H H' /\ H' x = some (.ext (Bs x (.ref aB)))),(fun z=>nomatch z),fun _=>⟨rfl,e1,s1,hx⟩,?_⟩
   clear e1 s1 hx
   rintro σ' H1 ⟨rfl,e1,s1,hx⟩
   refine ⟨_,rfl,x,aB,_,_,_,rfl,hx,(fun _ z=>z),⟨T.xga_TooMany,T.xgt_TooMany,T.xcl_TooMany,T.xgs,T.xtk,T.xob_TooMany,T.xbe_TooMany⟩,T.j_TooMany_TooMany,_,rfl,(fun σ' H'=>σ' = [some (.ref x),some (.ref L)] /\ H' L = some (.lst ([.str "many"]:List V)) /\ A6 H H' /\ H' x = some (.ext (Bs x (.ref aB)))),fun _=>?_,(fun z=>nomatch z),?_⟩
   ·refine ⟨_,rfl,.inl ⟨rfl,_,B5.of e1⟩,L,_,_,rfl,rfl,e1,B3 (by decide),rfl,A1,s1.new hL,?_⟩
    exact (A8 (Bb hx e1 HO.noConfusion)).trans hx
   clear e1 s1 hx
   rintro σ' H1 ⟨rfl,e1,s1,hx⟩
   refine ⟨_,rfl,x,aB,_,_,_,rfl,hx,(fun _ z=>z),⟨T.xga_TooMany,T.xgt_TooMany,T.xcl_TooMany,T.xgs,T.xtk,T.xob_TooMany,T.xbe_TooMany⟩,T.j_TooMany_NoRow,_,rfl,(fun σ' H'=>σ' = [some (.ref x),some (.ref L)] /\ H' L = some (.lst ([.str "many"]:List V)) /\ A6 H H' /\ H' x = some (.ext (Bs x (.ref aB)))),(fun z=>nomatch z),fun _=>⟨rfl,e1,s1,hx⟩,?_⟩
   clear e1 s1 hx
   rintro σ' H1 ⟨rfl,e1,s1,hx⟩
   exact ⟨rfl,_,rfl,_,L,[Str.ofString "many"],rfl,rfl,B5.of e1,by decide,(fun z hz=>by rw [List.mem_singleton.mp hz]; decide),by decide,q H1 s1⟩
  ·refine ⟨_,rfl,x,aD,_,_,_,rfl,hx,(fun _ z=>z),⟨T.xga_NoRow,T.xgt_NoRow,T.xcl_NoRow,T.xgs,T.xtk,T.xob_NoRow,T.xbe_NoRow⟩,T.j_NoRow_NoLoss,_,rfl,false,fun _ Q1 z1=>⟨_,rfl,x,aD,_,_,_,rfl,hx,(fun _ z=>z),⟨T.xga_NoRow,T.xgt_NoRow,T.xcl_NoRow,T.xgs,T.xtk,T.xob_NoRow,T.xbe_NoRow⟩,T.j_NoRow_NoWheel,_,rfl,false,fun _ Q2 z2=>⟨_,rfl,x,aD,_,_,_,rfl,hx,(fun _ z=>z),⟨T.xga_NoRow,T.xgt_NoRow,T.xcl_NoRow,T.xgs,T.xtk,T.xob_NoRow,T.xbe_NoRow⟩,T.j_NoRow_NoChain,_,rfl,false,fun _ Q3 z3=>⟨_,rfl,x,aD,_,_,_,rfl,hx,(fun _ z=>z),⟨T.xga_NoRow,T.xgt_NoRow,T.xcl_NoRow,T.xgs,T.xtk,T.xob_NoRow,T.xbe_NoRow⟩,T.j_NoRow_TooMuch,_,rfl,z3⟩,z2⟩,z1⟩,Az rfl ?_⟩
   refine ⟨_,rfl,x,aD,_,_,_,rfl,hx,(fun _ z=>z),⟨T.xga_NoRow,T.xgt_NoRow,T.xcl_NoRow,T.xgs,T.xtk,T.xob_NoRow,T.xbe_NoRow⟩,T.j_NoRow_NoPart,_,rfl,false,fun _ Q1 z1=>⟨_,rfl,x,aD,_,_,_,rfl,hx,(fun _ z=>z),⟨T.xga_NoRow,T.xgt_NoRow,T.xcl_NoRow,T.xgs,T.xtk,T.xob_NoRow,T.xbe_NoRow⟩,T.j_NoRow_Unsafe,_,rfl,false,fun _ Q2 z2=>⟨_,rfl,x,aD,_,_,_,rfl,hx,(fun _ z=>z),⟨T.xga_NoRow,T.xgt_NoRow,T.xcl_NoRow,T.xgs,T.xtk,T.xob_NoRow,T.xbe_NoRow⟩,T.j_NoRow_NoStand,_,rfl,false,fun _ Q3 z3=>⟨_,rfl,x,aD,_,_,_,rfl,hx,(fun _ z=>z),⟨T.xga_NoRow,T.xgt_NoRow,T.xcl_NoRow,T.xgs,T.xtk,T.xob_NoRow,T.xbe_NoRow⟩,T.j_NoRow_ValueError,_,rfl,z3⟩,z2⟩,z1⟩,Az rfl ?_⟩
   refine ⟨Bi,fun L hL=>?_⟩
   have s1:A6 H (upd H L (.lst [])):=A6.upd hL
   have e1:(upd H L (.lst [])) L = some (.lst []):=A1
   generalize upd H L (.lst []) = H1 at s1 e1 ⊢
   have hx:=s1 _ _ hx
   refine ⟨_,rfl,x,aD,_,_,_,rfl,hx,(fun _ z=>z),⟨T.xga_NoRow,T.xgt_NoRow,T.xcl_NoRow,T.xgs,T.xtk,T.xob_NoRow,T.xbe_NoRow⟩,T.j_NoRow_NoHall,_,rfl,(fun σ' H'=>σ' = [some (.ref x),some (.ref L)] /\ H' L = some (.lst ([]:List V)) /\ A6 H H' /\ H' x = some (.ext (Bs x (.ref aD)))),(fun z=>nomatch z),fun _=>⟨rfl,e1,s1,hx⟩,?_⟩
   clear e1 s1 hx
   rintro σ' H1 ⟨rfl,e1,s1,hx⟩
   refine ⟨_,rfl,x,aD,_,_,_,rfl,hx,(fun _ z=>z),⟨T.xga_NoRow,T.xgt_NoRow,T.xcl_NoRow,T.xgs,T.xtk,T.xob_NoRow,T.xbe_NoRow⟩,T.j_NoRow_NoListener,_,rfl,(fun σ' H'=>σ' = [some (.ref x),some (.ref L)] /\ H' L = some (.lst ([]:List V)) /\ A6 H H' /\ H' x = some (.ext (Bs x (.ref aD)))),(fun z=>nomatch z),fun _=>⟨rfl,e1,s1,hx⟩,?_⟩
   clear e1 s1 hx
   rintro σ' H1 ⟨rfl,e1,s1,hx⟩
   refine ⟨_,rfl,x,aD,_,_,_,rfl,hx,(fun _ z=>z),⟨T.xga_NoRow,T.xgt_NoRow,T.xcl_NoRow,T.xgs,T.xtk,T.xob_NoRow,T.xbe_NoRow⟩,T.j_NoRow_TooMany,_,rfl,(fun σ' H'=>σ' = [some (.ref x),some (.ref L)] /\ H' L = some (.lst ([]:List V)) /\ A6 H H' /\ H' x = some (.ext (Bs x (.ref aD)))),(fun z=>nomatch z),fun _=>⟨rfl,e1,s1,hx⟩,?_⟩
   clear e1 s1 hx
   rintro σ' H1 ⟨rfl,e1,s1,hx⟩
   refine ⟨_,rfl,x,aD,_,_,_,rfl,hx,(fun _ z=>z),⟨T.xga_NoRow,T.xgt_NoRow,T.xcl_NoRow,T.xgs,T.xtk,T.xob_NoRow,T.xbe_NoRow⟩,T.j_NoRow_NoRow,_,rfl,(fun σ' H'=>σ' = [some (.ref x),some (.ref L)] /\ H' L = some (.lst ([.str "row"]:List V)) /\ A6 H H' /\ H' x = some (.ext (Bs x (.ref aD)))),fun _=>?_,(fun z=>nomatch z),?_⟩
   ·refine ⟨_,rfl,.inl ⟨rfl,_,B5.of e1⟩,L,_,_,rfl,rfl,e1,B3 (by decide),rfl,A1,s1.new hL,?_⟩
    exact (A8 (Bb hx e1 HO.noConfusion)).trans hx
   clear e1 s1 hx
   rintro σ' H1 ⟨rfl,e1,s1,hx⟩
   exact ⟨rfl,_,rfl,_,L,[Str.ofString "row"],rfl,rfl,B5.of e1,by decide,(fun z hz=>by rw [List.mem_singleton.mp hz]; decide),by decide,q H1 s1⟩
def Lp (K:PySem.W.Frag) (aC aA aE aB aD aF:Addr):Sp:=fun vs H Q _=>∃ (x dx:Addr) (row:Str) (fs:List (Str × V)),vs = [.ref x,.str row] /\ H x = some (.ins aF dx fs) /\ fs.lookup (Str.ofString "told") = none /\ Im K aC aA aE aB aD aF [.ref x,.str row] H (fun v H'=>∃ s,v = .str s /\ Q (.str s) H') (fun cls _ H2=>∃ (C:Addr) (k:Str),cls = .ref C /\ ((aC = C /\ k = Str.ofString "hall") \/ (aA = C /\ k = Str.ofString "listener") \/ (aB = C /\ k = Str.ofString "many") \/ (aD = C /\ k = Str.ofString "row")) /\ ∀ (p:Addr) (H3:Hp),A6 H2 H3 -> H3 p = some (.tup [.str "refused",.str k]) -> Q (.ref p) H3)
theorem d4 {fd jF qF:FuncData} (T:Txt K mg aX aV aY bJ cO bA cP aW bB bC cN bK bL bM cQ bN cR bD bE bO bG bH bP bQ bR bS bT cS cT bU cU cV bV cW bI bW bX bZ cA cB cC aZ cD cE cF cH cJ aC aA aE aB aD aI aK aL aM aO aP aN aF aJ aH aG) (F:Dn K "_law_told" "_law_told" Nh aZ fd) (kI:A9 P w K mg base (Ax P w) 9 bI jF ["self","row"] (Im K aC aA aE aB aD aF)) (kJ:Ah K jF ["self","row"] []) (qG:A9 P w K mg base (Ax P w) 1 cC qF ["e"] (So K aC aA aE aB aD aF)) (qH:Ah K qF ["e"] []):A9 P w K mg base (Ax P w) 10 aZ fd ["desk","row"] (Lp K aC aA aE aB aD aF):=by
 refine F.okN Il (fun vs H Q E h=>?_) (fun dB A outer s H vs Q E hr h=>?_)
 ·rcases h with ⟨x,dx,row,fs,rfl,hx,GX,nL⟩ <;> rfl
 ·obtain ⟨x,dx,row,fs,rfl,hx,GX,nL⟩ := h
  refine ⟨_,(A2 (Al (i:=2) Il.nd rfl (Or.inl rfl) C5) (A2 (Al (i:=3) Il.nd rfl (Or.inl rfl) C5) (A2 (Zc K (i:=4) rfl rfl (fun W pn R hp=>(A5 (Al (i:=3) Il.nd rfl (Or.inl rfl) (Ky (pv 0) T.aR T.uo kI (hr.mono (by decide)) kJ .nil hp (A0 (pv 1) A3))))) (by rfl) T.kO T.e_RoundError T.b_RoundError Il.nd rfl rfl (fun A=>(A5 (Al (i:=2) Il.nd rfl (Or.inl rfl) (pv 4))))) (A2 (B6 (An Hb (pv 2) C5 (Am _)) (A5 (Af (D0 (A0 Ab (A0 (Ad qG (hr.mono (by decide)) rfl T.JP T.k_x35 qH .nil Ar (A0 (pv 2) A3)) A3))))) Ae) (A2 (B6 (Bj (Ap (Mc K) (by rfl) T.cM boot_isinstance (A0 (pv 3) (A0 (Xh (by rfl) T.eE boot_str) A3)))) (A5 (Af (pv 3))) Ae) (A5 (Af C5))))))),?_⟩
  have cv:∀ {Q1:VK} {s:Str} {H':Hp},(∀ s H',Q (.str s) H' -> Q1 (.str s) H') -> (∃ s',V.str s = .str s' /\ Q (.str s') H') -> Q1 (.str s) H':=fun hQ ⟨_,e,z⟩=>by
   cases e
   exact hQ _ _ z
  have mono:∀ Q1:VK,(∀ s H',Q (.str s) H' -> Q1 (.str s) H') -> Im K aC aA aE aB aD aF [.ref x,.str row] H Q1 (fun cls _ H2=>∃ (C:Addr) (k:Str),cls = .ref C /\ ((aC = C /\ k = Str.ofString "hall") \/ (aA = C /\ k = Str.ofString "listener") \/ (aB = C /\ k = Str.ofString "many") \/ (aD = C /\ k = Str.ofString "row")) /\ ∀ (p:Addr) (H3:Hp),A6 H2 H3 -> H3 p = some (.tup [.str "refused",.str k]) -> Q (.ref p) H3):=fun Q1 hQ=>by
   rcases nL with h | ⟨x',dx',XY,hd,ns,cm,hv,sv,tb,w,e,h1,h2,h3,h4,hk⟩
   ·exact .inl h
   refine .inr ⟨x',dx',XY,hd,ns,cm,hv,sv,tb,w,e,h1,h2,h3,h4,?_⟩
   rcases hk with ⟨k1,k2,k3⟩ | ⟨ws,ls,c2,n,tv,k1,k2,k3,k4,k5,k6⟩ | ⟨ws,ls,c2,n,tv,who,lost,k1,k2,k3,k4,k5,k6,k7,k8⟩ | ⟨ws,ls,c2,n,tv,who,k1,k2,k3,k4,k5,k6,k7,k8⟩ | ⟨ws,ls,c2,n,tv,k1,k2,k3,k4⟩ | k | k | k
   ·exact .inl ⟨k1,k2,fun tv H' a b c=>cv hQ (k3 tv H' a b c)⟩
   ·exact .inr (.inl ⟨ws,ls,c2,n,tv,k1,k2,k3,k4,k5,fun j H' a b=>cv hQ (k6 j H' a b)⟩)
   ·exact .inr (.inr (.inl ⟨ws,ls,c2,n,tv,who,lost,k1,k2,k3,k4,k5,k6,k7,fun H' a b=>cv hQ (k8 H' a b)⟩))
   ·exact .inr (.inr (.inr (.inl ⟨ws,ls,c2,n,tv,who,k1,k2,k3,k4,k5,k6,k7,fun H' a=>cv hQ (k8 H' a)⟩)))
   ·exact .inr (.inr (.inr (.inr (.inl ⟨ws,ls,c2,n,tv,k1,k2,k3,fun H' a=>cv hQ (k4 H' a)⟩))))
   ·exact .inr (.inr (.inr (.inr (.inr (.inl k)))))
   ·exact .inr (.inr (.inr (.inr (.inr (.inr (.inl k))))))
   ·exact .inr (.inr (.inr (.inr (.inr (.inr (.inr k))))))
  refine ⟨_,rfl,x,dx,fs,rfl,hx,GX,_,rfl,(fun cls _ H2=>∃ (C:Addr) (k:Str),cls = .ref C /\ ((aC = C /\ k = Str.ofString "hall") \/ (aA = C /\ k = Str.ofString "listener") \/ (aB = C /\ k = Str.ofString "many") \/ (aD = C /\ k = Str.ofString "row")) /\ ∀ (p:Addr) (H3:Hp),A6 H2 H3 -> H3 p = some (.tup [.str "refused",.str k]) -> Q (.ref p) H3),?_,mono _ ?_⟩
  ·rintro cls H2 ⟨C,k,rfl,hC,hq⟩
   refine ⟨C,rfl,by rcases hC with ⟨rfl,_⟩ | ⟨rfl,_⟩ | ⟨rfl,_⟩ | ⟨rfl,_⟩; exact T.u_NoHall_RoundError; exact T.u_NoListener_RoundError; exact T.u_TooMany_RoundError; exact T.u_NoRow_RoundError,fun y hy=>?_⟩
   refine ⟨_,rfl,?_⟩
   refine ⟨_,rfl,rfl,_,rfl,Cm rfl ?_⟩
   refine ⟨_,rfl,y,C,k,rfl,hy,hC,fun H3 s3=>⟨Bi,fun p hp=>hq p _ (s3.trans (A6.upd hp)) A1⟩⟩
  ·intro s H2 hq
   refine ⟨_,rfl,rfl,_,rfl,Az rfl ?_⟩
   exact ⟨_,rfl,_,"str","str",true,rfl,.str s,Gf,_,rfl,Cm rfl ⟨_,rfl,hq⟩⟩
def Sc (K:PySem.W.Frag) (aC aA aE aB aD aF:Addr):Sp:=fun vs H Q _=>∃ (x dx:Addr) (n:Int) (hv sv tb w:V),vs = [.ref x,.int n] /\ H x = some (.ins aF dx (Cg hv sv tb w)) /\ hv ≠ .cZ /\ ∀ H',A6 H H' -> Q (.bl true) H'
theorem c9 {fd fH:FuncData} (T:Txt K mg aX aV aY bJ cO bA cP aW bB bC cN bK bL bM cQ bN cR bD bE bO bG bH bP bQ bR bS bT cS cT bU cU cV bV cW bI bW bX bZ cA cB cC aZ cD cE cF cH cJ aC aA aE aB aD aI aK aL aM aO aP aN aF aJ aH aG) (F:Dn K "_law_refused" "_law_refused" N3 cD fd) (eX:A9 P w K mg base (Ax P w) 10 aZ fH ["desk","row"] (Lp K aC aA aE aB aD aF)) (eY:Ah K fH ["desk","row"] []):A9 P w K mg base (Ax P w) 11 cD fd ["desk","number"] (Sc K aC aA aE aB aD aF):=by
 refine F.okN Ou (fun vs H Q E h=>?_) (fun dB A outer s H vs Q E hr h=>?_)
 ·rcases h with ⟨x,dx,n0,hv,sv,tb,w,rfl,hx,KA,q⟩ <;> rfl
 ·obtain ⟨x,dx,n0,hv,sv,tb,w,rfl,hx,KA,q⟩ := h
  refine ⟨_,(A2 (Al (i:=2) Ou.nd rfl (Or.inl rfl) (Ck (A0 Ab (A0 Ab (A0 Ab (A0 Ab (A0 Ab (A0 Ab A3)))))))) (A2 (Al (i:=2) Ou.nd rfl (Or.inl rfl) (As Ru (pv 2) (Ck (A0 Ab (A0 Ab (A0 Ab (A0 Ab A3))))))) (A2 (Al (i:=3) Ou.nd rfl (Or.inl rfl) (Ck (A0 Ab (A0 Ab (A0 Ab (A0 Ab (A0 Ab (A0 Ab (A0 Ab (A0 Ab (A0 Ab (A0 Ab A3)))))))))))) (A5 (Af (Bk (Ie hr) (Ad eX (hr.mono (by decide)) rfl T.jU T.k_x36 eY .nil Ar (A0 (pv 0) (A0 (Au (Aw K) (pv 2) (As Bt (pv 1) A7) (fun _ _=>rfl)) A3))) (D0 (A0 Ab (A0 (Au (Aw K) (pv 3) (As Bt (pv 1) A7) (fun _ _=>rfl)) A3))) (Am _))))))),?_⟩
  refine ⟨Bi,fun r1 mB=>?_⟩
  have s1:A6 H (upd H r1 (.lst [.str "hall 0",.str "hall 2 3 calm 0",.str "hall 1 1 1 1 1 1 1 1 1",.str "hall 9 9 9 9",.str "hall 2 2999",.str "hall 1500 calm 2"])):=A6.upd mB
  have e1:(upd H r1 (.lst [.str "hall 0",.str "hall 2 3 calm 0",.str "hall 1 1 1 1 1 1 1 1 1",.str "hall 9 9 9 9",.str "hall 2 2999",.str "hall 1500 calm 2"])) r1 = some (.lst [.str "hall 0",.str "hall 2 3 calm 0",.str "hall 1 1 1 1 1 1 1 1 1",.str "hall 9 9 9 9",.str "hall 2 2999",.str "hall 1500 calm 2"]):=A1
  generalize upd H r1 (.lst [.str "hall 0",.str "hall 2 3 calm 0",.str "hall 1 1 1 1 1 1 1 1 1",.str "hall 9 9 9 9",.str "hall 2 2999",.str "hall 1500 calm 2"]) = H1 at s1 e1 ⊢
  refine ⟨_,rfl,Bi,fun r2 JX=>?_⟩
  have s2:A6 H1 (upd H1 r2 (.lst [.str "best 1",.str "call",.str "hall 3 calm",.str "rank "])):=A6.upd JX
  have e2:(upd H1 r2 (.lst [.str "best 1",.str "call",.str "hall 3 calm",.str "rank "])) r2 = some (.lst [.str "best 1",.str "call",.str "hall 3 calm",.str "rank "]):=A1
  generalize upd H1 r2 (.lst [.str "best 1",.str "call",.str "hall 3 calm",.str "rank "]) = H2 at s2 e2 ⊢
  refine ⟨r1,r2,_,_,rfl,rfl,s2 _ _ e1,e2,(by show 10 <= sizeLine; decide),fun r3 hr3=>?_⟩
  have s3:A6 H2 (upd H2 r3 (.lst ([.str "hall 0",.str "hall 2 3 calm 0",.str "hall 1 1 1 1 1 1 1 1 1",.str "hall 9 9 9 9",.str "hall 2 2999",.str "hall 1500 calm 2"] ++ [.str "best 1",.str "call",.str "hall 3 calm",.str "rank "]))):=A6.upd hr3
  have e3:(upd H2 r3 (.lst ([.str "hall 0",.str "hall 2 3 calm 0",.str "hall 1 1 1 1 1 1 1 1 1",.str "hall 9 9 9 9",.str "hall 2 2999",.str "hall 1500 calm 2"] ++ [.str "best 1",.str "call",.str "hall 3 calm",.str "rank "]))) r3 = some (.lst ([.str "hall 0",.str "hall 2 3 calm 0",.str "hall 1 1 1 1 1 1 1 1 1",.str "hall 9 9 9 9",.str "hall 2 2999",.str "hall 1500 calm 2",.str "best 1",.str "call",.str "hall 3 calm",.str "rank "]:List V)):=A1
  generalize upd H2 r3 (.lst ([.str "hall 0",.str "hall 2 3 calm 0",.str "hall 1 1 1 1 1 1 1 1 1",.str "hall 9 9 9 9",.str "hall 2 2999",.str "hall 1500 calm 2"] ++ [.str "best 1",.str "call",.str "hall 3 calm",.str "rank "])) = H3 at s3 e3 ⊢
  refine ⟨Bi,fun r4 hr4=>?_⟩
  have s4:A6 H3 (upd H3 r4 (.lst [.str "hall",.str "hall",.str "hall",.str "many",.str "many",.str "many",.str "row",.str "row",.str "row",.str "row"])):=A6.upd hr4
  have e4:(upd H3 r4 (.lst [.str "hall",.str "hall",.str "hall",.str "many",.str "many",.str "many",.str "row",.str "row",.str "row",.str "row"])) r4 = some (.lst [.str "hall",.str "hall",.str "hall",.str "many",.str "many",.str "many",.str "row",.str "row",.str "row",.str "row"]):=A1
  generalize upd H3 r4 (.lst [.str "hall",.str "hall",.str "hall",.str "many",.str "many",.str "many",.str "row",.str "row",.str "row",.str "row"]) = H4 at s4 e4 ⊢
  have hm:=Ce n0 (show (0:Int) < 10 by decide)
  obtain ⟨i,hi⟩ : ∃ i:Nat,n0 % 10 = i:=⟨(n0 % 10).toNat,by omega⟩
  obtain ⟨a1,a2,a3⟩ := dz (i:=i) (by omega)
  rw [<- hi] at a1 a2
  have GW:=((s1.trans s2).trans s3).trans s4
  have RY:=GW _ _ hx
  refine ⟨_,rfl,_,rfl,_,rfl,_,_,rfl,rfl,by simp,r3,_,_,_,rfl,rfl,.inl (B5.of (s4 _ _ e3)),a1,x,dx,Vb i,_,rfl,RY,rfl,?_⟩
  rcases Zj i (by omega) with ⟨iI,hk⟩ | ⟨ns,cm,dU,⟨xf,hk⟩ | ⟨⟨k1,k2,k3,k4,k5,k6⟩,hk⟩⟩
  ·refine .inl ⟨x,dx,Vb i,_,rfl,RY,iI,fun H5 s5=>⟨_,_,rfl,.inr (.inr (.inr ⟨rfl,rfl⟩)),fun p H6 s6 ep=>?_⟩⟩
   rw [<- hk] at ep
   refine ⟨_,rfl,_,rfl,_,_,rfl,rfl,by simp,r4,_,_,_,rfl,rfl,.inl (B5.of ((s5.trans s6) _ _ e4)),a2,Bi,fun t ht=>?_⟩
   refine ⟨_,_,Fq ((A6.upd ht) _ _ ep) (by decide +kernel) a3,Fq A1 (by decide +kernel) a3,(by show 1 <= 60; decide),?_⟩
   show Q (.bl (PyData.eqv (.tuple [.str (Str.ofString "refused"),.str (Oq i)]) (.tuple [.str (Str.ofString "refused"),.str (Oq i)]))) _
   rw [Jw]
   exact q _ ((GW.trans (s5.trans s6)).trans (A6.upd ht))
  ·refine .inr ⟨x,dx,Vb i,Str.ofString "hall",ns,cm,hv,sv,tb,w,rfl,RY,dU,(fun z=>absurd z (by decide)),(fun _=>KA),.inr (.inr (.inr (.inr (.inr (.inr (.inl ⟨rfl,xf,fun H5 s5=>⟨_,_,rfl,.inl ⟨rfl,rfl⟩,fun p H6 s6 ep=>?_⟩⟩))))))⟩
   rw [<- hk] at ep
   refine ⟨_,rfl,_,rfl,_,_,rfl,rfl,by simp,r4,_,_,_,rfl,rfl,.inl (B5.of ((s5.trans s6) _ _ e4)),a2,Bi,fun t ht=>?_⟩
   refine ⟨_,_,Fq ((A6.upd ht) _ _ ep) (by decide +kernel) a3,Fq A1 (by decide +kernel) a3,(by show 1 <= 60; decide),?_⟩
   show Q (.bl (PyData.eqv (.tuple [.str (Str.ofString "refused"),.str (Oq i)]) (.tuple [.str (Str.ofString "refused"),.str (Oq i)]))) _
   rw [Jw]
   exact q _ ((GW.trans (s5.trans s6)).trans (A6.upd ht))
  ·refine .inr ⟨x,dx,Vb i,Str.ofString "hall",ns,cm,hv,sv,tb,w,rfl,RY,dU,(fun z=>absurd z (by decide)),(fun _=>KA),.inr (.inr (.inr (.inr (.inr (.inr (.inr ⟨rfl,k1,k2,k3,k4,k5,k6,fun H5 s5=>⟨_,_,rfl,.inr (.inr (.inl ⟨rfl,rfl⟩)),fun p H6 s6 ep=>?_⟩⟩))))))⟩
   rw [<- hk] at ep
   refine ⟨_,rfl,_,rfl,_,_,rfl,rfl,by simp,r4,_,_,_,rfl,rfl,.inl (B5.of ((s5.trans s6) _ _ e4)),a2,Bi,fun t ht=>?_⟩
   refine ⟨_,_,Fq ((A6.upd ht) _ _ ep) (by decide +kernel) a3,Fq A1 (by decide +kernel) a3,(by show 1 <= 60; decide),?_⟩
   show Q (.bl (PyData.eqv (.tuple [.str (Str.ofString "refused"),.str (Oq i)]) (.tuple [.str (Str.ofString "refused"),.str (Oq i)]))) _
   rw [Jw]
   exact q _ ((GW.trans (s5.trans s6)).trans (A6.upd ht))
def S8 (K:PySem.W.Frag) (aC aA aE aB aD aF:Addr):Sp:=fun vs H Q _=>∃ (n:Int) (x dx p TB b:Addr) (ws ls:List Int) (cm:Option Int) (q:Int) (tv dM:List ((List Int × Int) × V)),vs = [.int n,.ref x,.ref p,.ref TB,.ref b] /\ 0 <= n /\ Ba aF H x dx ws cm ls q tv .cZ /\ Aq H p ws cm /\ Cc H b ls q /\ H TB = some (.dT dM) /\ Ct ws cm tv /\ Ct ws cm dM /\ D3 ws cm /\ ls.length = ws.length /\ ∀ H',A6 H H' -> Q (.bl true) H'
theorem bw {fd fH jE jD:FuncData} (T:Txt K mg aX aV aY bJ cO bA cP aW bB bC cN bK bL bM cQ bN cR bD bE bO bG bH bP bQ bR bS bT cS cT bU cU cV bV cW bI bW bX bZ cA cB cC aZ cD cE cF cH cJ aC aA aE aB aD aI aK aL aM aO aP aN aF aJ aH aG) (F:Dn K "_law_question" "_law_question" N0 cE fd) (eX:A9 P w K mg base (Ax P w) 10 aZ fH ["desk","row"] (Lp K aC aA aE aB aD aF)) (eY:Ah K fH ["desk","row"] []) (kG:A9 P w K mg base (Ax P w) 7 bG jE ["hall","table","standing"] (P3 K)) (kH:Ah K jE ["hall","table","standing"] []) (kB:A9 P w K mg base (Ax P w) 5 bH jD ["hall","table","standing","who"] (P0 K aC aA aE aB aD aF)) (kC:Ah K jD ["hall","table","standing","who"] []):A9 P w K mg base (Ax P w) 11 cE fd ["number","desk","hall","table","standing"] (S8 K aC aA aE aB aD aF):=by
 refine F.okN Lm (fun vs H Q E h=>?_) (fun dB A outer s H vs Q E hr h=>?_)
 ·rcases h with ⟨n0,x,dx,p,TB,b,ws,ls,cm,n,tv,dM,rfl,hn,hD,ha,hb,hT,dR,dZ,aS,hl,q⟩ <;> rfl
 ·obtain ⟨n0,x,dx,p,TB,b,ws,ls,cm,n,tv,dM,rfl,hn,hD,ha,hb,hT,dR,dZ,aS,hl,q⟩ := h
  refine ⟨_,(A2 (B6 (An Ci (As Bt (pv 0) A7) A7 (Am _)) (A5 (Af (Bk (Ie hr) (Ad eX (hr.mono (by decide)) rfl T.jU T.k_x36 eY .nil Ar (A0 (pv 1) (A0 Ab A3))) (Bg Bd (by rfl) T.eE boot_str (A0 (Ad kG (hr.mono (by decide)) rfl T.u9 T.k_x25 kH .nil Ar (A0 (pv 2) (A0 (pv 3) (A0 (pv 4) A3)))) A3)) (Am _)))) Ae) (A2 (B6 (An Ci (As Bt (pv 0) A7) A7 (Am _)) (A2 (Al (i:=5) Lm.nd rfl (Or.inl rfl) Ab) (A2 (Df (Ih (Ig (Fl hr) (pv 4) (pv 3)) rfl) (A5 (Al (i:=5) Lm.nd rfl (Or.inl rfl) (Bg Bd (by rfl) T.eE boot_str (A0 (Fv (Fl hr) (pv 3) (pv 4) (fun _ _=>rfl)) A3)))) Ae) (A5 (Af (Bk (Ie hr) (Ad eX (hr.mono (by decide)) rfl T.jU T.k_x36 eY .nil Ar (A0 (pv 1) (A0 Ab A3))) (pv 5) (Am _)))))) Ae) (A2 (Al (i:=6) Lm.nd rfl (Or.inl rfl) (As Bt (As C0 (pv 0) A7) (As Ej (Ap (C6 K) (by rfl) T.eR PySem.boot_len (A0 (Au (Aw K) (pv 2) A7 (fun _ _=>rfl)) A3)) (As Bt (As C0 (pv 0) A7) A7)))) (A2 (Al (i:=7) Lm.nd rfl (Or.inl rfl) (Ad eX (hr.mono (by decide)) rfl T.jU T.k_x36 eY .nil Ar (A0 (pv 1) (A0 (As Cn Ab (Bg Bd (by rfl) T.eE boot_str (A0 (pv 6) A3))) A3)))) (A2 (B6 (An Ci (pv 6) (Ap (C6 K) (by rfl) T.eR PySem.boot_len (A0 (Au (Aw K) (pv 2) A7 (fun _ _=>rfl)) A3)) (Am _)) (A5 (Af (Bk (Ie hr) (pv 7) (D0 (A0 Ab (A0 Ab A3))) (Am _)))) Ae) (A5 (Af (Bk (Ie hr) (pv 7) (Au (Aw K) (Ck (A0 Ab (A0 Ab A3))) (Bg Mb (by rfl) T.pB boot_int (A0 (Ad kB (hr.mono (by decide)) rfl T.uc T.k_x10 kC .nil Ar (A0 (pv 2) (A0 (pv 3) (A0 (pv 4) (A0 (pv 6) A3))))) A3)) (fun _ _=>rfl)) (Am _))))))))),?_⟩
  have heq:=Qt dR.1 dZ.1
  have h8:=aS.2.2.2.1
  obtain ⟨a0,b0,TB0,hx,_⟩ := id hD
  obtain ⟨wt,fF,fA⟩ := id ha
  refine ⟨_,rfl,_,_,rfl,rfl,by simp,rfl,_,rfl,?_⟩
  refine E9 (fun _=>?_) (fun _=>?_)
  ·refine ⟨_,rfl,x,dx,_,_,rfl,hx,rfl,.inr ⟨x,dx,_,Str.ofString "best",_,none,_,_,_,_,rfl,hx,Xm,(fun z=>absurd z (by decide)),(fun _ z=>by cases z),.inr (.inl ⟨ws,ls,cm,n,tv,rfl,hD,Hh dR.1,aS,hl,fun j H1 s1 uJ=>⟨_,rfl,?_⟩⟩)⟩⟩
   refine ⟨_,rfl,_,rfl,_,rfl,p,TB,b,ws,ls,cm,n,dM,rfl,ha.same s1,hb.same s1,s1 _ _ hT,Hh dZ.1,aS.2.2.1,hl,h8,(fun y hy=>(aS.1 y hy).1),fun j1 H2 s2 XZ=>?_⟩
   have hj:=uJ.1
   have ej:j = j1:=G5.uniq uJ (by
    have e:(fun i=>Pd tv ws ls cm n i) = (fun i=>Pd dM ws ls cm n i):=funext fun i=>ge heq ws ls cm n i
    simp only [e]
    exact XZ)
   subst ej
   have QY:0 <= (j:Int) /\ (j:Int) < 10 ^ 100:=by omega
   refine ⟨_,rfl,Cp QY,_,_,Ek (Dw QY),Ek (Dw QY),(by show 0 <= 60; decide),?_⟩
   show Q (.bl (PyData.eqv (.str (Bq (j:Int))) (.str (Bq (j:Int))))) H2
   rw [Gp]
   exact q H2 (s1.trans s2)
  refine ⟨_,rfl,_,_,rfl,rfl,by simp,rfl,_,rfl,?_⟩
  refine E9 (fun _=>?_) (fun _=>?_)
  ·have ho:=dZ.1.1 (ls,n)
   have er:E5 tv (ls,n) = E5 dM (ls,n):=by
    unfold E5
    rw [heq]
   have okr:=X7 (k:=(ls,n)) dZ
   have fin:∀ {Q1:VK},(∀ H',A6 H H' -> Q1 (.bl true) H') -> ∀ s,s = E5 dM (ls,n) -> ∀ H1,A6 H H1 -> ∃ d1 d2,Rp H1 d1 (.str (E5 tv (ls,n))) /\ Rp H1 d2 (.str s) /\ d1.depth <= 60 /\ Q1 (.bl (PyData.eqv d1 d2)) H1:=fun {Q1} q s es H1 s1=>by
    rw [es,er]
    refine ⟨_,_,Ek okr,Ek okr,(by show 0 <= 60; decide),?_⟩
    rw [Gp]
    exact q H1 s1
   refine ⟨_,rfl,_,rfl,TB,_,rfl,D5.t hT (show G3 H b (ls,n) from hb),_,rfl,(fun σ' H'=>σ' = [some (V.int n0),some (V.ref x),some (V.ref p),some (V.ref TB),some (V.ref b),some (V.str (E5 dM (ls,n))),none,none] /\ H' = H),fun z=>?_,fun z=>?_,?_⟩
   ·cases hv:Ao dM (ls,n) with
    | none =>
     rw [hv] at z
     exact nomatch z
    | some v =>
     obtain ⟨m,rfl,_⟩ := ho _ hv
     have hm:=Fy dZ hv
     have dg:D5 H TB (.ref b) (some (.int m)):=by
      rw [<- hv]
      exact D5.t hT (show G3 H b (ls,n) from hb)
     have e:E5 dM (ls,n) = Bq m:=by
      unfold E5
      rw [hv]
     refine ⟨_,rfl,_,rfl,TB,_,rfl,dg,m,rfl,Cp ⟨by omega,by omega⟩,?_,rfl⟩
     rw [e]
     rfl
   ·cases hv:Ao dM (ls,n) with
    | some v =>
     rw [hv] at z
     exact nomatch z
    | none =>
     have e:E5 dM (ls,n) = Str.ofString "safe" := by
      unfold E5
      rw [hv]
     refine ⟨?_,rfl⟩
     rw [e]
     rfl
   rintro σ' H1 ⟨rfl,rfl⟩
   refine ⟨_,rfl,x,dx,_,_,rfl,hx,rfl,.inr ⟨x,dx,_,Str.ofString "rank",_,none,_,_,_,_,rfl,hx,Xn,(fun z=>absurd z (by decide)),(fun _ z=>by cases z),.inr (.inr (.inr (.inr (.inl ⟨ws,ls,cm,n,tv,rfl,hD,dR,fun H2 s2=>⟨_,rfl,?_⟩⟩))))⟩⟩
   exact ⟨_,rfl,fin q _ rfl H2 s2⟩
  have gY:=Ce (n0 / 21) (show (0:Int) < 2 by decide)
  have GU:=aS.2.2.1
  obtain ⟨who,pG⟩ : ∃ who:Nat,n0 / 3 % ((ws.length:Int) + n0 / 21 % 2) = who:=⟨(n0 / 3 % ((ws.length:Int) + n0 / 21 % 2)).toNat,by
   have:=Int.emod_nonneg (n0 / 3) (show (ws.length:Int) + n0 / 21 % 2 ≠ 0 by omega)
   omega⟩
  have oS:(who:Int) <= ws.length:=by
   have:=Int.emod_lt_of_pos (n0 / 3) (show (0:Int) < (ws.length:Int) + n0 / 21 % 2 by omega)
   omega
  have tO:0 <= (who:Int) /\ (who:Int) < 10 ^ 100:=by omega
  refine ⟨_,rfl,_,_,rfl,rfl,⟨by decide,by decide⟩,_,rfl,p,_,_,_,rfl,rfl,.inr (Bw.of fF),rfl,wt,_,rfl,.inr (Bw.of fA),_,rfl,_,_,rfl,rfl,⟨by decide,by decide⟩,_,_,rfl,rfl,by simp,_,_,rfl,rfl,n0 / 3,(ws.length:Int) + n0 / 21 % 2,rfl,(by rw [List.length_map]),(by omega),?_⟩
  simp only [pG]
  have YA:(Str.ofString "answer ").length + (Bq (who:Int)).length <= sizeLine:=Nat.le_trans (Nat.add_le_add_left (Db tO.1 tO.2).len _) (by decide)
  refine ⟨_,rfl,_,rfl,_,rfl,Cp tO,_,_,rfl,rfl,YA,?_⟩
  have dU:Fb (Str.ofString "answer " ++ Bq (who:Int)) (Str.ofString "answer") [(who:Int)] none:=Ot tO (by decide) (by decide) (by decide) (by decide) (by decide +kernel)
  rcases Nat.lt_or_ge who ws.length with hw | hw
  ·refine ⟨x,dx,_,_,rfl,hx,rfl,.inr ⟨x,dx,_,Str.ofString "answer",_,none,_,_,_,_,rfl,hx,dU,(fun z=>absurd z (by decide)),(fun _ z=>by cases z),.inr (.inr (.inr (.inl ⟨ws,ls,cm,n,tv,who,rfl,rfl,hD,Hh dR.1,hw,hl,h8,fun H1 s1=>⟨_,rfl,?_⟩⟩)))⟩⟩
   refine ⟨_,rfl,_,rfl,p,_,_,_,rfl,rfl,.inr (Bw.of (s1 _ _ fF)),rfl,wt,_,rfl,.inr (Bw.of (s1 _ _ fA)),rfl,_,rfl,E9 (fun z=>?_) (fun _=>?_)⟩
   ·exfalso
    simp at z
    omega
   refine ⟨_,rfl,Bi,fun t ht=>?_⟩
   have s2:A6 H1 (upd H1 t (.lst [.str "reached",.str "lost"])):=A6.upd ht
   have e2:(upd H1 t (.lst [.str "reached",.str "lost"])) t = some (.lst [.str "reached",.str "lost"]):=A1
   generalize upd H1 t (.lst [.str "reached",.str "lost"]) = H2 at s2 e2 ⊢
   have eC:=s1.trans s2
   refine ⟨_,rfl,_,rfl,_,rfl,_,rfl,.inl ⟨p,TB,b,ws,ls,cm,n,_,who,dM,rfl,rfl,ha.same eC,hb.same eC,eC _ _ hT,Hh dZ.1,hw,hl,h8,fun H3 s3=>?_⟩⟩
   have xh:G4 [V.str "reached",V.str "lost"] (if Ds dM ws ls cm n who = true then 1 else 0) = some (.str (if Ds tv ws ls cm n who = true then Str.ofString "lost" else Str.ofString "reached")):=by
    rw [Yg heq]
    cases Ds dM ws ls cm n who <;> rfl
   have LS:PyData.strOk (if Ds tv ws ls cm n who = true then Str.ofString "lost" else Str.ofString "reached") = true:=by
    cases Ds tv ws ls cm n who <;> decide +kernel
   refine .inr ⟨_,rfl,t,_,_,_,rfl,rfl,.inl (B5.of (s3 _ _ e2)),xh,_,_,Ek LS,Ek LS,(by show 0 <= 60; decide),?_⟩
   rw [Gp]
   exact q H3 (eC.trans s3)
  have ew:(who:Int) = ws.length:=by omega
  refine ⟨x,dx,_,_,rfl,hx,rfl,.inr ⟨x,dx,_,Str.ofString "answer",_,none,_,_,_,_,rfl,hx,dU,(fun z=>absurd z (by decide)),(fun _ z=>by cases z),.inr (.inr (.inr (.inr (.inr (.inl ⟨ws,ls,cm,n,tv,_,rfl,rfl,hD,(by omega),fun H1 s1=>⟨_,_,rfl,.inr (.inl ⟨rfl,rfl⟩),fun t H2 s2 et=>?_⟩⟩)))))⟩⟩
  refine ⟨_,rfl,_,rfl,p,_,_,_,rfl,rfl,.inr (Bw.of ((s1.trans s2) _ _ fF)),rfl,wt,_,rfl,.inr (Bw.of ((s1.trans s2) _ _ fA)),rfl,_,rfl,E9 (fun _=>?_) (fun z=>?_)⟩
  ·refine ⟨_,rfl,Bi,fun t2 ht=>?_⟩
   refine ⟨_,_,Fq ((A6.upd ht) _ _ et) (by decide +kernel) (by decide +kernel),Fq A1 (by decide +kernel) (by decide +kernel),(by show 1 <= 60; decide),?_⟩
   rw [Jw]
   exact q _ ((s1.trans s2).trans (A6.upd ht))
  ·exfalso
   simp at z
   omega
def Sv (K:PySem.W.Frag):Sp:=fun vs H Q _=>∃ (n:Int) (t:Addr) (ls:List Int),vs = [.int n,.ref t] /\ 0 <= n /\ H t = some (.tup (ls.map V.int)) /\ 0 < ls.length /\ ls.length <= 8 /\ ∀ (who:Nat) (H':Hp),A6 H H' -> who < ls.length -> Q (.int (who:Int)) H'
theorem dc {fd  : FuncData} (T:Txt K mg aX aV aY bJ cO bA cP aW bB bC cN bK bL bM cQ bN cR bD bE bO bG bH bP bQ bR bS bT cS cT bU cU cV bV cW bI bW bX bZ cA cB cC aZ cD cE cF cH cJ aC aA aE aB aD aI aK aL aM aO aP aN aF aJ aH aG) (F:Dn K "_law_who" "_law_who" Lk cF fd):A9 P w K mg base (Ax P w) 1 cF fd ["number","left"] (Sv K):=by
 refine F.okN fh (fun vs H Q E h=>?_) (fun dB A outer s H vs Q E hr h=>?_)
 ·rcases h with ⟨n0,t,ls,rfl,hn,ht,GU,jM,q⟩ <;> rfl
 ·obtain ⟨n0,t,ls,rfl,hn,ht,GU,jM,q⟩ := h
  refine ⟨_,(A2 (B6 (An Ha (As Bt (pv 0) A7) A7 (Am _)) (A5 (Af (Ap (Hs K rfl) (by rfl) T.lN boot_min (A0 (Dk (D4 (by rfl) T.eA (A0 (Ap (C6 K) (by rfl) T.eR PySem.boot_len (A0 (pv 1) A3)) A3)) _ rfl O3 rfl rfl (fun _ _ _ _=>(Av (i:=0) Of rfl (Or.inl rfl))) (fun _ _ _ _=>(Om (An Ci (Au (Aw K) (pv 1) (pv 0) (fun _ _=>rfl)) (Ap (Hs K rfl) (by rfl) T.lN boot_min (A0 (pv 1) A3)) (Am _)))) (fun _ _ _ _=>(pv 0))) A3)))) Ae) (A5 (Af (As Bt (As C0 (pv 0) A7) (Ap (C6 K) (by rfl) T.eR PySem.boot_len (A0 (pv 1) A3)))))),?_⟩
  refine ⟨_,rfl,_,_,rfl,rfl,by simp,_,_,rfl,rfl,_,rfl,?_⟩
  refine E9 (fun h5=>?_) (fun h5=>?_)
  ·refine ⟨_,rfl,t,_,rfl,.inr (Bw.of ht),_,rfl,by omega,by rw [List.length_map]; omega,fun D hD=>?_⟩
   refine Po (cnt:=((ls.map V.int).length:Int).toNat) (fun i ys H'=>∃ ks:List Int,ys = ks.map V.int /\ ks.length <= i /\ (∀ k ∈ ks,0 <= k /\ k < (ls.length:Int)) /\ (∀ j:Nat,j < i -> (∀ y ∈ ls,ls.getD j 0 <= y) -> ks ≠ []) /\ H' D = some (.lst ys) /\ A6 H H') ⟨[],rfl,Nat.le_refl _,(fun _ z=>nomatch z),(fun j z=>by omega),A1,A6.upd hD⟩ ?_ ?_ ?_ ?_
   ·rintro i ys H1 hi ⟨ks,rfl,pT,hk,eZ,fK,s1⟩
    rw [List.length_map] at hi
    have JC:i < ls.length:=by omega
    have ax:G4 (ls.map V.int) (0 + (i:Int)) = some (.int (ls.getD i 0)):=by rw [Int.zero_add]; exact Th JC
    refine ⟨_,rfl,_,rfl,t,_,_,_,rfl,rfl,.inr (Bw.of (s1 _ _ ht)),ax,_,rfl,t,ls,rfl,.inr (Bw.of (s1 _ _ ht)),GU,fun m hm mQ=>⟨rfl,_,rfl,?_⟩⟩
    refine E9 (fun _=>?_) (fun hn=>?_)
    ·refine ⟨_,rfl,fK,B3 (by rw [List.length_map]; omega),ks ++ [0 + (i:Int)],by rw [List.map_append]; rfl,by simp; omega,fun k kY=>?_,fun _ _ _ z=>by simp at z,A1,s1.new hD⟩
     rcases List.mem_append.mp kY with z | z
     ·exact hk k z
     ·rw [List.mem_singleton.mp z]
      omega
    ·refine ⟨ks,rfl,by omega,hk,fun j hj hall=>?_,fK,s1⟩
     by_cases e:j = i
     ·subst e
      exfalso
      have h1:=hall m hm
      have h2:=mQ (ls.getD j 0) (by rw [List.getD_eq_getElem?_getD,List.getElem?_eq_getElem JC]; exact List.getElem_mem JC)
      have h3:ls.getD j 0 = m:=by omega
      exact hn (by rw [h3]; simp)
     ·exact eZ j (by omega) hall
   ·rintro σ H' Q1 Q2 hQ ⟨v,e1,v2,e2,p,us,i,u,r1,r2,sq,at',v3,e3,p2,ns2,r3,sq2,l2,z⟩
    exact ⟨v,e1,v2,e2,p,us,i,u,r1,r2,sq,at',v3,e3,p2,ns2,r3,sq2,l2,fun m hm mQ=>let ⟨y1,c,y2,y3⟩ := z m hm mQ; ⟨y1,c,y2,hQ _ _ y3⟩⟩
   ·rintro σ H' Q1 Q2 hQ ⟨v,e1,z⟩
    exact ⟨v,e1,hQ _ _ z⟩
   rintro ys H1 ⟨ks,rfl,pT,hk,eZ,fK,s1⟩
   have YB:0 < ks.length:=by
    obtain ⟨j,hj,mQ⟩ := Qb GU
    refine List.length_pos_iff.mpr (eZ j (by rw [List.length_map]; omega) mQ)
   refine ⟨D,ks,rfl,.inl (B5.of fK),YB,fun m hm _=>?_⟩
   have hm2:=hk m hm
   obtain ⟨m',rfl⟩ : ∃ m':Nat,m = m':=⟨m.toNat,by omega⟩
   exact q m' H1 s1 (by omega)
  ·have LU:(0:Int) < ((ls.map V.int).length:Int):=by rw [List.length_map]; omega
   have hr:=Ce (n0 / 8) LU
   refine ⟨_,rfl,_,_,rfl,rfl,⟨by decide,by decide⟩,_,rfl,t,_,rfl,.inr (Bw.of ht),_,_,rfl,rfl,LU,?_⟩
   rw [List.length_map] at hr
   obtain ⟨m',jS⟩ : ∃ m':Nat,n0 / 8 % ((ls.map V.int).length:Int) = m':=⟨(n0 / 8 % ((ls.map V.int).length:Int)).toNat,by rw [List.length_map]; omega⟩
   rw [List.length_map] at jS
   show Q (.int (n0 / 8 % ((ls.map V.int).length:Int))) H
   rw [List.length_map,jS]
   exact q m' H (A6.refl _) (by omega)
def Sf (K:PySem.W.Frag) (aC aA aE aB aD aF:Addr):Sp:=fun vs H Q _=>∃ (x dx p b:Addr) (ws ls:List Int) (cm:Option Int) (q n:Int) (tv:List ((List Int × Int) × V)),vs = [.ref x,.ref p,.ref b,.int n] /\ 0 <= n /\ Ba aF H x dx ws cm ls q tv .cZ /\ Aq H p ws cm /\ Cc H b ls q /\ D3 ws cm /\ (ls,q) ∈ Bc ws (qv cm) /\
 ∀ (b':Addr) (YC:List Int) (q':Int) (H':Hp),Da x H H' -> Cc H' b' YC q' -> Ba aF H' x dx ws cm YC q' tv .cZ -> (YC,q') ∈ Bc ws (qv cm) -> Q (.ref b') H'
theorem cg {fd qI jF dJ dQ:FuncData} (T:Txt K mg aX aV aY bJ cO bA cP aW bB bC cN bK bL bM cQ bN cR bD bE bO bG bH bP bQ bR bS bT cS cT bU cU cV bV cW bI bW bX bZ cA cB cC aZ cD cE cF cH cJ aC aA aE aB aD aI aK aL aM aO aP aN aF aJ aH aG) (F:Dn K "_law_behind" "_law_behind" N5 cH fd) (qJ:A9 P w K mg base (Ax P w) 1 cF qI ["number","left"] (Sv K)) (qK:Ah K qI ["number","left"] []) (kI:A9 P w K mg base (Ax P w) 9 bI jF ["self","row"] (Im K aC aA aE aB aD aF)) (kJ:Ah K jF ["self","row"] []) (eG:A9 P w K mg base (Ax P w) 4 aW dJ ["hall","standing","who","lost"] (Ip K aC aA aE aB aD aF)) (eU:Ah K dJ ["hall","standing","who","lost"] []) (dC:Ah K dJ ["hall","standing","who","lost"] [Value.bool false]) (dX:A9 P w K mg base (Ax P w) 1 aV dQ ["hall"] (Gk K)) (dY:Ah K dQ ["hall"] []):A9 P w K mg base (Ax P w) 10 cH fd ["desk","hall","spot","number"] (Sf K aC aA aE aB aD aF):=by
 refine F.okN Ov (fun vs H Q E h=>?_) (fun dB A outer s H vs Q E hr h=>?_)
 ·rcases h with ⟨x,dx,p,b,ws,ls,cm,n,n0,tv,rfl,hn,hD,ha,hb,aS,iE,q⟩ <;> rfl
 ·obtain ⟨x,dx,p,b,ws,ls,cm,n,n0,tv,rfl,hn,hD,ha,hb,aS,iE,q⟩ := h
  refine ⟨_,(A2 (Al (i:=4) Ov.nd rfl (Or.inl rfl) (Ad qJ (hr.mono (by decide)) rfl T.JR T.k_x41 qK .nil Ar (A0 (pv 3) (A0 (Au (Aw K) (pv 2) A7 (fun _ _=>rfl)) A3)))) (A2 (Al (i:=5) Ov.nd rfl (Or.inl rfl) (Hc (Bk Hb (Au (Aw K) (pv 1) A7 (fun _ _=>rfl)) C5 (Am _)) (Hc (Bk Ci (Au (Aw K) (pv 2) A7 (fun _ _=>rfl)) A7 (Am _)) (Kz (Bk Ci (As Bt (As C0 (pv 3) A7) A7) A7 (Am _)))))) (A2 (Cf (Jy (pv 0) T.aR T.uo kI (hr.mono (by decide)) kJ .nil Ar (A0 (As Cn (Au (Aw K) (Ck (A0 Ab (A0 Ab A3))) (Bg Mb (by rfl) T.pB boot_int (A0 (pv 5) A3)) (fun _ _=>rfl)) (Bg Bd (by rfl) T.eE boot_str (A0 (pv 4) A3))) A3))) (A2 (Al (i:=6) Ov.nd rfl (Or.inl rfl) (Ad eG (hr.mono (by decide)) rfl T.jT T.k_x42 eU .nil Ar (A0 (pv 1) (A0 (pv 2) (A0 (pv 4) (A0 (pv 5) A3)))))) (A2 (B6 (An Kw (pv 6) C5 (Am _)) (A5 (Af (Ad dX (hr.mono (by decide)) rfl T.iT T.k_x23 dY .nil Ar (A0 (pv 1) A3)))) Ae) (A5 (Af (pv 6)))))))),?_⟩
  obtain ⟨m1,m2,m3,m4⟩ := G1 iE
  have m1:ls.length = ws.length:=m1
  have h8:=aS.2.2.2.1
  have LI:=aS.2.2.1
  obtain ⟨u,lR,gY⟩ := id hb
  obtain ⟨wt,fF,fA⟩ := id ha
  refine ⟨_,rfl,_,rfl,b,_,_,_,rfl,rfl,.inr (Bw.of lR),rfl,n0,u,ls,rfl,hn,gY,by omega,by omega,fun who H1 s1 hw=>?_⟩
  have hw:who < ws.length:=by omega
  refine ⟨_,rfl,p,_,_,_,rfl,rfl,.inr (Bw.of (s1 _ _ fF)),rfl,rfl,_,(decide (n = 0) && decide (V.int (n0 / 80 % 2) = V.int 0)),rfl,(fun _ Q1 z1=>⟨_,rfl,b,_,_,_,rfl,rfl,.inr (Bw.of (s1 _ _ lR)),rfl,rfl,_,decide (V.int (n0 / 80 % 2) = V.int 0),rfl,(fun _ Q2 z2=>⟨_,rfl,_,_,rfl,rfl,⟨by decide,by decide⟩,_,_,rfl,rfl,by simp,rfl,z2⟩),?_⟩),?_⟩
  ·have e : decide (V.int n = V.int 0) = decide (n = 0) := by
    rw [Bool.eq_iff_iff]
    simp
   rw [e]
   exact z1
  generalize QW:(!decide (vO cm = V.cZ) && (decide (n = 0) && decide (V.int (n0 / 80 % 2) = V.int 0))) = lost
  have hm:K3 cm n lost:=fun h=>by
   rw [<- QW,Yc,Bool.and_eq_true,Bool.and_eq_true,Bool.not_eq_true',decide_eq_false_iff_not,decide_eq_true_iff] at h
   exact ⟨h.1,h.2.1⟩
  clear QW
  have fK:=Ba.same s1 hD
  obtain ⟨a1,bb1,TB1,mC,_⟩ := id fK
  refine ⟨_,rfl,x,dx,_,rfl,mC,rfl,Bi,fun t ht=>?_⟩
  have s2:A6 H1 (upd H1 t (.lst [.str "call ",.str "lost "])):=A6.upd ht
  have e2:(upd H1 t (.lst [.str "call ",.str "lost "])) t = some (.lst [.str "call ",.str "lost "]):=A1
  generalize upd H1 t (.lst [.str "call ",.str "lost "]) = H2 at s2 e2 ⊢
  have tO:0 <= (who:Int) /\ (who:Int) < 10 ^ 100:=by omega
  have xh:G4 [V.str "call ",V.str "lost "] (if lost = true then 1 else 0) = some (.str (if lost = true then Str.ofString "lost " else Str.ofString "call ")):=by cases lost <;> rfl
  have YA:(if lost = true then Str.ofString "lost " else Str.ofString "call ").length + (Bq (who:Int)).length <= sizeLine:=by
   have e5:(if lost = true then Str.ofString "lost " else Str.ofString "call ").length = 5:=by cases lost <;> decide
   rw [e5]
   exact Nat.le_trans (Nat.add_le_add_left (Db tO.1 tO.2).len _) (by decide)
  have gO:=s2 _ _ mC
  refine ⟨_,rfl,.inr ⟨lost,rfl,t,_,_,_,rfl,rfl,.inl (B5.of e2),xh,_,rfl,_,rfl,Cp tO,_,_,rfl,rfl,YA,?_⟩⟩
  refine .inr ⟨x,dx,_,Iv lost,[(who:Int)],none,_,_,_,_,rfl,gO,Xo tO lost,(fun z=>absurd z (by cases lost <;> decide)),(fun _ z=>by cases z),.inr (.inr (.inl ⟨ws,ls,cm,n,tv,who,lost,rfl,rfl,Ba.same s2 fK,hw,aS,iE,hm,fun H3 b3 sC=>?_⟩))⟩
  have bb:=(Da.of (x:=x) (s1.trans s2)).trans b3
  obtain ⟨_,_,_,HD,_⟩ := id hD
  have RV:=ha.but bb HD
  have uK:=hb.but bb HD
  refine ⟨_,rfl,_,rfl,_,rfl,_,rfl,.inl ⟨p,b,ws,ls,cm,n,who,lost,rfl,RV,uK,hw,m1,h8,hm,fun hz H4 s4=>?_,fun hz b4 H4 s4 hb4=>?_⟩⟩
  ·refine ⟨_,rfl,rfl,_,rfl,Cm rfl ?_⟩
   refine ⟨_,rfl,p,ws,cm,rfl,RV.same s4,fun b5 H5 s5 hb5=>?_⟩
   refine q b5 ws 0 H5 ((bb.trans (Da.of s4)).trans (Da.of s5)) hb5 ?_ (Ft aS)
   have eK:G9 ws ls cm n who lost = (ws,0):=if_pos hz
   rw [eK] at sC
   exact Ba.same (s4.trans s5) sC
  ·refine ⟨_,rfl,rfl,_,rfl,Az rfl ⟨_,rfl,?_⟩⟩
   have eK:G9 ws ls cm n who lost = (Be ws ls who lost,Cv cm n lost):=if_neg hz
   rw [eK] at sC
   refine q b4 _ _ H4 (bb.trans (Da.of s4)) hb4 (Ba.same s4 sC) (aj (k:=(ls,n)) (who:=who) (lost:=lost) (fun w hw=>(aS.1 w hw).1) iE hw ?_ (if_neg hz))
   unfold Zv
   cases lost with
   | false=>split <;> simp
   | true =>
    have hmm:Gh cm n = true:=by
     unfold Gh
     simp [(hm rfl).1,(hm rfl).2]
    rw [if_pos hmm]
    simp
def Oz (K:PySem.W.Frag):Sp:=fun vs H Q _=>∃ (a:Addr) (ns:List Int),vs = [.ref a] /\ B5 K H a (ns.map V.int) /\ ns.length <= 63 /\ (∀ z ∈ ns,intBits z <= 2 ^ 20) /\ ∀ H',Q (.bl true) H'
theorem bq {fd uP qL qM qN jA dQ fH qO qP qQ qR qS:FuncData} (T:Txt K mg aX aV aY bJ cO bA cP aW bB bC cN bK bL bM cQ bN cR bD bE bO bG bH bP bQ bR bS bT cS cT bU cU cV bV cW bI bW bX bZ cA cB cC aZ cD cE cF cH cJ aC aA aE aB aD aI aK aL aM aO aP aN aF aJ aH aG) (F:Dn K "law" "law" Fc cJ fd) (tP:A9 P w K mg base (Ax P w) 1 cS uP ["self"] (Y6 K aC aA aE aB aD aF)) (tQ:Ah K uP ["self"] []) (nY:A9 P w K mg base (Ax P w) 2 bZ qL ["number"] (Sn K)) (nZ:Ah K qL ["number"] []) (o4:A9 P w K mg base (Ax P w) 1 bX qM ["cell"] (Ss K)) (o6:Ah K qM ["cell"] []) (qT:A9 P w K mg base (Ax P w) 1 bW qN ["script","k"] (Sb K)) (qU:Ah K qN ["script","k"] []) (jB:A9 P w K mg base (Ax P w) 7 bD jA ["hall"] (P5 K aC aA aE aB aD aF)) (jC:Ah K jA ["hall"] []) (dX:A9 P w K mg base (Ax P w) 1 aV dQ ["hall"] (Gk K)) (dY:Ah K dQ ["hall"] []) (eX:A9 P w K mg base (Ax P w) 10 aZ fH ["desk","row"] (Lp K aC aA aE aB aD aF)) (eY:Ah K fH ["desk","row"] []) (o7:A9 P w K mg base (Ax P w) 1 cA qO ["hall"] (Su K)) (o8:Ah K qO ["hall"] []) (o9:A9 P w K mg base (Ax P w) 2 cB qP ["hall","table"] (Si K)) (og:Ah K qP ["hall","table"] []) (oh:A9 P w K mg base (Ax P w) 11 cE qQ ["number","desk","hall","table","standing"] (S8 K aC aA aE aB aD aF)) (oi:Ah K qQ ["number","desk","hall","table","standing"] []) (qV:A9 P w K mg base (Ax P w) 11 cD qR ["desk","number"] (Sc K aC aA aE aB aD aF)) (qW:Ah K qR ["desk","number"] []) (qX:A9 P w K mg base (Ax P w) 10 cH qS ["desk","hall","spot","number"] (Sf K aC aA aE aB aD aF)) (qY:Ah K qS ["desk","hall","spot","number"] []):A9 P w K mg base (Ax P w) 12 cJ fd ["script"] (Oz K):=by
 refine F.okN Dr (fun vs H Q E h=>?_) (fun dB A outer s H vs Q E hr h=>?_)
 ·rcases h with ⟨a,ns,rfl,hS,hlen,lW,q⟩ <;> rfl
 ·obtain ⟨a,ns,rfl,hS,hlen,lW,q⟩ := h
  refine ⟨_,(A2 (Al (i:=1) Dr.nd rfl (Or.inl rfl) (Ck (A0 (Qo T.nO tP (hr.mono (by decide)) (by rfl) T.pE tQ .nil Ar) (A0 (Qo T.nO tP (hr.mono (by decide)) (by rfl) T.pE tQ .nil Ar) A3)))) (A2 (Dg (i:=2) Dr.nd rfl (D4 (by rfl) T.eA (A0 A7 A3)) _ rfl W3 rfl rfl (fun _ _ _ _=>(Av (i:=0) X3 rfl (Or.inl rfl))) (fun _ _ _ _=>Cr) (fun _ _ _ _=>(Ad nY (hr.mono (by decide)) rfl T.ug T.k_x34 nZ .nil Ar (A0 (Ad o4 (hr.mono (by decide)) rfl T.uf T.k_x39 o6 .nil Ar (A0 (As Ej (Ad qT (hr.mono (by decide)) rfl T.JO T.k_x17 qU .nil Ar (A0 (pv 1) (A0 (pv 0) A3))) A7) A3)) A3))) rfl rfl) (A2 (Dg (i:=3) Dr.nd rfl (Dc (pv 2)) _ rfl W4 rfl rfl (fun _ _ _ _=>(Av (i:=0) X4 rfl (Or.inl rfl))) (fun _ _ _ _=>Cr) (fun _ _ _ _=>(Ad jB (hr.mono (by decide)) rfl T.pz T.k_x43 jC .nil Ar (A0 (pv 0) A3))) rfl rfl) (A2 (Dg (i:=4) Dr.nd rfl (Dc (pv 2)) _ rfl W5 rfl rfl (fun _ _ _ _=>(Av (i:=0) X5 rfl (Or.inl rfl))) (fun _ _ _ _=>Cr) (fun _ _ _ _=>(Ad dX (hr.mono (by decide)) rfl T.iT T.k_x23 dY .nil Ar (A0 (pv 0) A3))) rfl rfl) (A2 (Cu PassesOwn.never rfl (D4 (by rfl) T.eA (A0 A7 A3)) (Av (i:=5) Dr.nd rfl (Or.inl rfl)) (A5 (B6 (An (X8 hr) (Ad eX (hr.mono (by decide)) rfl T.jU T.k_x36 eY .nil Ar (A0 (Au (Aw K) (pv 1) (pv 5) (fun _ _=>rfl)) (A0 (Ad o7 (hr.mono (by decide)) rfl T.uh T.k_x40 o8 .nil Ar (A0 (Au (Aw K) (pv 2) (pv 5) (fun _ _=>rfl)) A3)) A3))) (Ad o9 (hr.mono (by decide)) rfl T.ui T.k_x28 og .nil Ar (A0 (Au (Aw K) (pv 2) (pv 5) (fun _ _=>rfl)) (A0 (Au (Aw K) (pv 3) (pv 5) (fun _ _=>rfl)) A3))) (Am _)) (A5 (Af Fm)) Ae))) (A2 (Al (i:=6) Dr.nd rfl (Or.inl rfl) A7) (A2 (Cu PassesOwn.never rfl (Dc (Fn (Fs K) (pv 0) (F2 A7) (F2 A7))) (Av (i:=7) Dr.nd rfl (Or.inl rfl)) (A2 (Al (i:=8) Dr.nd rfl (Or.inl rfl) (Ad o4 (hr.mono (by decide)) rfl T.uf T.k_x39 o6 .nil Ar (A0 (pv 7) A3))) (A2 (Al (i:=9) Dr.nd rfl (Or.inl rfl) (As Bt (pv 8) A7)) (A5 (B6 (An Ha (As Bt (As C0 (pv 8) A7) A7) A7 (Am _)) (A5 (B6 (D9 (Bj (Ad oh (hr.mono (by decide)) rfl T.uj T.k_x13 oi .nil Ar (A0 (As C0 (pv 8) A7) (A0 (Au (Aw K) (pv 1) (pv 9) (fun _ _=>rfl)) (A0 (Au (Aw K) (pv 2) (pv 9) (fun _ _=>rfl)) (A0 (Au (Aw K) (pv 3) (pv 9) (fun _ _=>rfl)) (A0 (Au (Aw K) (pv 4) (pv 9) (fun _ _=>rfl)) A3)))))))) (A5 (Af Fm)) Ae)) (A5 (B6 (An Ci (As Bt (As C0 (pv 8) A7) A7) A7 (Am _)) (A5 (B6 (D9 (Bj (Ad qV (hr.mono (by decide)) rfl T.JQ T.k_x18 qW .nil Ar (A0 (Au (Aw K) (pv 1) (pv 9) (fun _ _=>rfl)) (A0 (As C0 (pv 8) A7) A3))))) (A5 (Af Fm)) Ae)) (A5 (B6 (PW.pt (Hg (An Ci (As Bt (As C0 (pv 8) A7) A7) A7 (Am _)) (Fx (An Ha (pv 6) A7 (Am _))))) (A2 (Al (i:=6) Dr.nd rfl (Or.inl rfl) (As Ej (pv 6) A7)) (A2 (L6 (Ad nY (hr.mono (by decide)) rfl T.ug T.k_x34 nZ .nil Ar (A0 (As C0 (pv 8) A7) A3)) (L3 (pv 2) (pv 9) Fr)) (A2 (L6 (Ad jB (hr.mono (by decide)) rfl T.pz T.k_x43 jC .nil Ar (A0 (Au (Aw K) (pv 2) (pv 9) (fun _ _=>rfl)) A3)) (L3 (pv 3) (pv 9) Fr)) (A2 (L6 (Ad dX (hr.mono (by decide)) rfl T.iT T.k_x23 dY .nil Ar (A0 (Au (Aw K) (pv 2) (pv 9) (fun _ _=>rfl)) A3)) (L3 (pv 4) (pv 9) Fr)) (A5 (B6 (An (X8 hr) (Ad eX (hr.mono (by decide)) rfl T.jU T.k_x36 eY .nil Ar (A0 (Au (Aw K) (pv 1) (pv 9) (fun _ _=>rfl)) (A0 (Ad o7 (hr.mono (by decide)) rfl T.uh T.k_x40 o8 .nil Ar (A0 (Au (Aw K) (pv 2) (pv 9) (fun _ _=>rfl)) A3)) A3))) (Ad o9 (hr.mono (by decide)) rfl T.ui T.k_x28 og .nil Ar (A0 (Au (Aw K) (pv 2) (pv 9) (fun _ _=>rfl)) (A0 (Au (Aw K) (pv 3) (pv 9) (fun _ _=>rfl)) A3))) (Am _)) (A5 (Af Fm)) Ae)))))) (A5 (L6 (Ad qX (hr.mono (by decide)) rfl T.JS T.k_x22 qY .nil Ar (A0 (Au (Aw K) (pv 1) (pv 9) (fun _ _=>rfl)) (A0 (Au (Aw K) (pv 2) (pv 9) (fun _ _=>rfl)) (A0 (Au (Aw K) (pv 4) (pv 9) (fun _ _=>rfl)) (A0 (As C0 (pv 8) A7) A3))))) (L3 (pv 4) (pv 9) Fr)))))))))))) (A2 (Cu PassesOwn.never rfl (D4 (by rfl) T.eA (A0 A7 A3)) (Av (i:=5) Dr.nd rfl (Or.inl rfl)) (A5 (B6 (D9 (Bj (Ad oh (hr.mono (by decide)) rfl T.uj T.k_x13 oi .nil Ar (A0 (As C0 (pv 5) A7) (A0 (Au (Aw K) (pv 1) (As Bt (pv 5) A7) (fun _ _=>rfl)) (A0 (Au (Aw K) (pv 2) (As Bt (pv 5) A7) (fun _ _=>rfl)) (A0 (Au (Aw K) (pv 3) (As Bt (pv 5) A7) (fun _ _=>rfl)) (A0 (Au (Aw K) (pv 4) (As Bt (pv 5) A7) (fun _ _=>rfl)) A3)))))))) (A5 (Af Fm)) Ae))) (A5 (Af Fm)))))))))),?_⟩
  refine fun x0 jJ HD LV YD=>⟨x0,jJ,rfl,A1,fun H1 b1 e1=>⟨rfl,?_⟩⟩
  have s1:A6 H H1:=fun b o e=>b1 b o (Aa e HD) (by rw [A8 (Aa e HD),A8 (Aa e LV)]; exact e)
  refine fun x1 jK mC LW YE=>⟨x1,jK,rfl,A1,fun H2 b2 e2=>⟨rfl,?_⟩⟩
  have s2:A6 H1 H2:=fun b o e=>b2 b o (Aa e mC) (by rw [A8 (Aa e mC),A8 (Aa e LW)]; exact e)
  have tR:x0 ≠ x1:=Aa e1 mC
  have RS:=s2 _ _ e1
  clear b1 b2 HD LV YD mC LW YE e1
  refine ⟨Bi,fun ds hds=>?_⟩
  have s3:A6 H2 (upd H2 ds (.lst [.ref x0,.ref x1])):=A6.upd hds
  have e3:(upd H2 ds (.lst [.ref x0,.ref x1])) ds = some (.lst [.ref x0,.ref x1]):=A1
  generalize upd H2 ds (.lst [.ref x0,.ref x1]) = H3 at s3 e3 ⊢
  have KG:=(s1.trans s2).trans s3
  have ex0:=s3 _ _ RS
  have ex1:=s3 _ _ e2
  clear RS e2 s1 s2 s3
  refine ⟨2,rfl,by decide,by decide,fun hs YF=>?_⟩
  have nhd:ds ≠ hs:=Aa e3 YF
  refine Ez (cnt:=(2:Int).toNat) (fun i ys H'=>∃ gs:List (List Int × Option Int),B0 (fun g v=>∃ p,v = V.ref p /\ Aq H' p g.1 g.2 /\ D3 g.1 g.2) gs ys /\ gs.length = i /\ H' hs = some (.lst ys) /\ A6 H3 H') ⟨[],B0.nil,rfl,A1,A6.upd YF⟩ ?_ ?_
  ·rintro i ys H4 hi ⟨gs,xi,RZ,xj,s4⟩ Qe hQ
   have hi:i < 2:=hi
   have hb:=U3 (a:=Ix ns (0 + (i:Int))) (b:=2) (m:=2 ^ 20) (R9 lW) (by decide)
   refine ⟨_,rfl,_,rfl,a,ns,_,rfl,(KG.trans s4).seq hS,by omega,_,_,rfl,rfl,_,rfl,Nat.le_trans hb (by decide),fun r uz mB=>?_⟩
   refine ⟨r,rfl,uz,fun p ws cm H5 s5 hh aS=>?_⟩
   have nR:=xi.1
   have tS:=s5 _ _ xj
   refine hQ _ _ tS (B3 (by omega)) ⟨gs ++ [(ws,cm)],?_,by rw [List.length_append,RZ]; rfl,A1,(s4.trans s5).new YF⟩
   exact (B0.imp (fun g u ⟨p,e,h,o⟩=>⟨p,e,(h.same s5).up (B1.lst tS),o⟩) xi).append (B0.one ⟨p,rfl,hh.up (B1.lst tS),aS⟩)
  rintro ys H4 ⟨gs,xi,RZ,xj,s4⟩
  obtain ⟨g0,g1,rfl⟩ := Z2 (show gs.length = 2 from RZ)
  obtain ⟨v0,v1,rfl⟩ := Z2 (xi.1.trans (show [g0,g1].length = 2 from rfl))
  have hh:∀ j,j < 2 -> ∃ p,tw v0 v1 j = V.ref p /\ Aq H4 p (tw g0.1 g1.1 j) (tw g0.2 g1.2 j) /\ D3 (tw g0.1 g1.1 j) (tw g0.2 g1.2 j):=fun j hj=>by
   have h1:j = 0 \/ j = 1:=by omega
   rcases h1 with rfl | rfl
   ·obtain ⟨r,hr,h⟩ := xi.get (i:=0) (v:=v0) rfl
    cases hr
    exact h
   ·obtain ⟨r,hr,h⟩ := xi.get (i:=1) (v:=v1) rfl
    cases hr
    exact h
  clear xi RZ
  refine ⟨_,rfl,hs,rfl,.inl ⟨⟨_,B5.of xj⟩,fun ts SA=>?_⟩⟩
  refine De (K:=K) (a:=hs) (xs:=[v0,v1]) (fun i ys H'=>ys.length = i /\ (∀ (j:Nat) (u:V),ys[j]? = some u -> j < 2 /\ ∃ TB dM,u = V.ref TB /\ H' TB = some (.dT dM) /\ Ct (tw g0.1 g1.1 j) (tw g0.2 g1.2 j) dM) /\ H' ts = some (.lst ys) /\ A6 H4 H') ⟨rfl,(fun j u h=>by simp at h),A1,A6.upd SA⟩ (fun i ys H' _ ⟨_,_,_,s⟩=>B5.of (s _ _ xj)) ?_ ?_
  ·rintro i u ys H5 hu ⟨nR,eP,es5,s5⟩ Qe hQ
   obtain ⟨hi,rfl⟩ := Ti hu
   obtain ⟨p,hp,h1,aS⟩ := hh i hi
   rw [hp]
   refine ⟨_,rfl,.inl ⟨p,_,_,rfl,h1.same s5,aS.rk.1,aS.rk.2.1,aS.rk.2.2.1,aS.rk.2.2.2,aS.2.2.2.1,aS.2.2.2.2,fun TB tv H6 hTB s6 eT HC LN LO=>?_⟩⟩
   have uQ:=s6 _ _ es5
   refine hQ _ _ uQ (B3 (by omega)) ⟨by rw [List.length_append,nR]; rfl,fun j w hw=>?_,A1,(s5.trans s6).new SA⟩
   rcases Nat.lt_or_ge j ys.length with y | y
   ·rw [List.getElem?_append_left y] at hw
    obtain ⟨hj,YG,fR,sZ,HE,h3'⟩ := eP j w hw
    have HE:=s6 _ _ HE
    exact ⟨hj,YG,fR,sZ,(A8 (Bb HE uQ HO.noConfusion)).trans HE,h3'⟩
   ·rw [List.getElem?_append_right y] at hw
    have YH:j - ys.length = 0:=by
     have:=(List.getElem?_eq_some_iff.mp hw).1
     rw [List.length_singleton] at this
     omega
    rw [YH] at hw
    cases hw
    have ej:j = i:=by omega
    subst ej
    exact ⟨hi,TB,tv,rfl,(A8 (Bb eT uQ HO.noConfusion)).trans eT,HC,LN,LO⟩
  have ntd:ds ≠ ts:=Aa (s4 _ _ e3) SA
  have nth:hs ≠ ts:=Aa xj SA
  rintro ys H5 ⟨nR,eP,YI,s5⟩
  obtain ⟨t0,t1,rfl⟩ := Z2 (show ys.length = 2 from nR)
  have htb:∀ j,j < 2 -> ∃ TB dM,tw t0 t1 j = V.ref TB /\ H5 TB = some (.dT dM) /\ Ct (tw g0.1 g1.1 j) (tw g0.2 g1.2 j) dM:=fun j hj=>by
   have h1:j = 0 \/ j = 1:=by omega
   rcases h1 with rfl | rfl
   ·exact (eP 0 t0 rfl).2
   ·exact (eP 1 t1 rfl).2
  have hh:∀ j,j < 2 -> ∃ p,tw v0 v1 j = V.ref p /\ Aq H5 p (tw g0.1 g1.1 j) (tw g0.2 g1.2 j) /\ D3 (tw g0.1 g1.1 j) (tw g0.2 g1.2 j):=fun j hj=>by
   obtain ⟨p,e,h1,h2⟩ := hh j hj
   exact ⟨p,e,h1.same s5,h2⟩
  have tS:=s5 _ _ xj
  have YJ:=s4.trans s5
  clear eP nR xj s5 s4
  refine ⟨_,rfl,hs,rfl,.inl ⟨⟨_,B5.of tS⟩,fun ss LX=>?_⟩⟩
  have nsd:ds ≠ ss:=Aa (YJ _ _ e3) LX
  have YK:hs ≠ ss:=Aa tS LX
  have YL:ts ≠ ss:=Aa YI LX
  refine De (K:=K) (a:=hs) (xs:=[v0,v1]) (fun i ys H'=>ys.length = i /\ (∀ (j:Nat) (u:V),ys[j]? = some u -> j < 2 /\ ∃ b,u = V.ref b /\ Cc H' b (tw g0.1 g1.1 j) 0) /\ H' ss = some (.lst ys) /\ A6 H5 H') ⟨rfl,(fun j u h=>by simp at h),A1,A6.upd LX⟩ (fun i ys H' _ ⟨_,_,_,s⟩=>B5.of (s _ _ tS)) ?_ ?_
  ·rintro i u ys H6 hu ⟨nR,eP,uQ,s6⟩ Qe hQ
   obtain ⟨hi,rfl⟩ := Ti hu
   obtain ⟨p,hp,h1,aS⟩ := hh i hi
   rw [hp]
   refine ⟨_,rfl,p,_,_,rfl,h1.same s6,fun b H7 s7 hb=>?_⟩
   have xk:=s7 _ _ uQ
   refine hQ _ _ xk (B3 (by omega)) ⟨by rw [List.length_append,nR]; rfl,fun j w hw=>?_,A1,(s6.trans s7).new LX⟩
   rcases Nat.lt_or_ge j ys.length with y | y
   ·rw [List.getElem?_append_left y] at hw
    obtain ⟨hj,b',sZ,HE⟩ := eP j w hw
    exact ⟨hj,b',sZ,(HE.same s7).up (B1.lst xk)⟩
   ·rw [List.getElem?_append_right y] at hw
    have YH:j - ys.length = 0:=by
     have:=(List.getElem?_eq_some_iff.mp hw).1
     rw [List.length_singleton] at this
     omega
    rw [YH] at hw
    cases hw
    have ej:j = i:=by omega
    subst ej
    exact ⟨hi,b,rfl,hb.up (B1.lst xk)⟩
  rintro ys H6 ⟨nR,eP,uQ,s6⟩
  obtain ⟨w0,w1,rfl⟩ := Z2 (show ys.length = 2 from nR)
  have nL:∀ j,j < 2 -> ∃ b,tw w0 w1 j = V.ref b /\ Cc H6 b (tw g0.1 g1.1 j) 0:=fun j hj=>by
   have h1:j = 0 \/ j = 1:=by omega
   rcases h1 with rfl | rfl
   ·exact (eP 0 w0 rfl).2
   ·exact (eP 1 w1 rfl).2
  have LY:=YJ.trans s6
  have ed6:=LY _ _ e3
  have eh6:=s6 _ _ tS
  have et6:=s6 _ _ YI
  have LZ:∀ j,j < 2 -> H6 (tw x0 x1 j) = some (.ins aF (tw jJ jK j) (Cg .cZ .cZ .cZ .cZ)):=fun j hj=>by
   have h1:j = 0 \/ j = 1:=by omega
   rcases h1 with rfl | rfl
   ·exact LY _ _ ex0
   ·exact LY _ _ ex1
  have hS6:=(KG.trans LY).seq hS
  have hh:∀ j,j < 2 -> ae H6 (tw v0 v1 j) (tw t0 t1 j) (tw w0 w1 j) (tw g0.1 g1.1 j) (tw g0.2 g1.2 j):=fun j hj=>by
   obtain ⟨p,a1,a2,a3⟩ := hh j hj
   obtain ⟨TB,dM,b1,b2,b3⟩ := htb j hj
   obtain ⟨b,c1,c2⟩ := nL j hj
   exact ⟨p,TB,b,dM,a1,b1,c1,a2.same s6,s6 _ _ b2,c2,b3,a3⟩
  clear eP nR nL htb tS YI s6 LY YJ KG hS e3 ex0 ex1
  refine ⟨2,rfl,by decide,by decide,?_⟩
  refine Fu (n:=(2:Int).toNat) (fun i σ H'=>∃ v5:Option V,σ = [some (.ref a),some (.ref ds),some (.ref hs),some (.ref ts),some (.ref ss),v5,none,none,none,none] /\ (H' ds = some (.lst [.ref x0,.ref x1]) /\ H' hs = some (.lst [v0,v1]) /\ H' ts = some (.lst [t0,t1]) /\ H' ss = some (.lst [w0,w1]) /\ B5 K H' a (ns.map V.int)) /\ (∀ j,j < 2 -> ∃ hv sv tb,H' (tw x0 x1 j) = some (.ins aF (tw jJ jK j) (Cg hv sv tb .cZ))) /\ (∀ j,j < 2 -> ae H' (tw v0 v1 j) (tw t0 t1 j) (tw w0 w1 j) (tw g0.1 g1.1 j) (tw g0.2 g1.2 j)) /\ (∀ j,j < i -> j < 2 -> ∃ tv,Ba aF H' (tw x0 x1 j) (tw jJ jK j) (tw g0.1 g1.1 j) (tw g0.2 g1.2 j) (tw g0.1 g1.1 j) 0 tv .cZ /\ Ct (tw g0.1 g1.1 j) (tw g0.2 g1.2 j) tv)) ⟨none,rfl,⟨ed6,eh6,et6,uQ,hS6⟩,(fun j hj=>⟨_,_,_,LZ j hj⟩),hh,fun j hj=>by omega⟩ ?_ ?_
  ·rintro i σ H7 hi ⟨v5,rfl,⟨ed,eh,et,es,SD⟩,hi7,MA,SE⟩
   have hi:i < 2:=hi
   obtain ⟨hv,sv,tb,oW⟩ := hi7 i hi
   obtain ⟨p,TB,b,dM,ep,HH,eb,ha,hT,hb,dZ,aS⟩ := id (MA i hi)
   have lX:G4 [V.ref x0,V.ref x1] (0 + (i:Int)) = some (.ref (tw x0 x1 i)):=by rw [Int.zero_add,Dd hi,T4]
   have mW:G4 [v0,v1] (0 + (i:Int)) = some (.ref p):=by rw [Int.zero_add,Dd hi,ep]
   have qZ:G4 [t0,t1] (0 + (i:Int)) = some (.ref TB):=by rw [Int.zero_add,Dd hi,HH]
   refine ⟨_,rfl,_,rfl,ds,_,_,_,rfl,rfl,.inl (B5.of ed),lX,_,rfl,_,rfl,hs,_,_,_,rfl,rfl,.inl (B5.of eh),mW,p,_,_,rfl,ha,aS,fun row H8 s8 dU=>?_⟩
   have hx8:=s8 _ _ oW
   refine ⟨tw x0 x1 i,tw jJ jK i,row,_,rfl,hx8,rfl,.inr ⟨tw x0 x1 i,tw jJ jK i,row,Str.ofString "hall",_,_,hv,sv,tb,_,rfl,hx8,dU,(fun z=>absurd z (by decide)),(fun z=>absurd z (by decide)),.inl ⟨rfl,aS,fun tv H9 b9 hD9 dR=>⟨_,rfl,?_⟩⟩⟩⟩
   have MB:Da (tw x0 x1 i) H7 H9:=(Da.of s8).trans b9
   refine ⟨_,rfl,_,rfl,hs,_,_,_,rfl,rfl,.inl (B5.of (MB.lst oW eh)),mW,_,rfl,_,rfl,ts,_,_,_,rfl,rfl,.inl (B5.of (MB.lst oW et)),qZ,p,TB,_,_,dM,rfl,ha.but MB oW,MB.dT oW hT,dZ,fun kL lA=>?_⟩
   refine ⟨_,_,Ek (Gz dR),Ek (Gz dZ),(by show 0 <= 60; decide),_,rfl,Az ?_ ?_⟩
   ·show (!PyData.eqv _ _) = false
    rw [Q6 dR dZ,Gp]
    rfl
   have lY:Da (tw x0 x1 i) H7 kL:=MB.trans (Da.of lA)
   refine ⟨_,rfl,⟨lY.lst oW ed,lY.lst oW eh,lY.lst oW et,lY.lst oW es,B5.but lY oW SD⟩,fun j hj=>?_,fun j hj=>(MA j hj).but lY oW,fun j hj QZ=>?_⟩
   ·by_cases e:j = i
    ·subst e
     obtain ⟨a',b',YG,h,_⟩ := hD9.same lA
     exact ⟨_,_,_,h⟩
    ·obtain ⟨oQ,sv',tb',h⟩ := hi7 j hj
     exact ⟨_,_,_,lY _ _ (Tw tR hj hi e) h⟩
   ·by_cases e:j = i
    ·subst e
     exact ⟨tv,hD9.same lA,dR⟩
    ·obtain ⟨fR,h,h'⟩ := SE j (by omega) QZ
     exact ⟨fR,Ba.but lY oW (Tw tR QZ hi e) h,h'⟩
  rintro σ H7 ⟨v5,rfl,⟨ed7,YM,YN,xk,SD⟩,_,MA,SE⟩
  have hL7:Ls aF H7 x0 x1 jJ jK ds hs ts ss:=⟨v0,v1,t0,t1,w0,w1,ed7,YM,YN,xk,fun j hj=>by
   obtain ⟨tv,h1,h2⟩ := SE j hj hj
   exact (MA j hj).cell h1 h2⟩
  clear hh LZ MA SE hS6 ed6 uQ et6 eh6
  refine ⟨_,rfl,_,rfl,_,rfl,a,_,rfl,SD,fun sl nV=>?_⟩
  rw [Ud]
  have hcb:∀ c ∈ Yn ns (some 2) (some 52),intBits c <= 2 ^ 20 + 8:=fun c hc=>Nat.le_trans (lW c (List.mem_of_mem_drop (List.mem_of_mem_take hc))) (by decide)
  generalize Yn ns (some 2) (some 52) = cs at hcb ⊢
  have nlh:sl ≠ hs:=Ne.symm (Aa YM nV)
  have nlt:sl ≠ ts:=Ne.symm (Aa YN nV)
  have nls:sl ≠ ss:=Ne.symm (Aa xk nV)
  have s8:A6 H7 (upd H7 sl (.lst (cs.map V.int))):=A6.upd nV
  have e8:(upd H7 sl (.lst (cs.map V.int))) sl = some (.lst (cs.map V.int)):=A1
  generalize upd H7 sl (.lst (cs.map V.int)) = H8 at s8 e8 ⊢
  have hL8:=hL7.same s8
  clear hL7 ed7 YM YN xk SD
  refine ⟨sl,rfl,.inl ⟨⟨_,B5.of e8⟩,?_⟩⟩
  refine Dl (K:=K) (a:=sl) (xs:=cs.map V.int) (fun i σ H'=>∃ (ag:Int) (v5 v7 v8 v9:Option V),σ = [some (.ref a),some (.ref ds),some (.ref hs),some (.ref ts),some (.ref ss),v5,some (.int ag),v7,v8,v9] /\ H' sl = some (.lst (cs.map V.int)) /\ Ls aF H' x0 x1 jJ jK ds hs ts ss)
   ⟨0,_,_,_,_,rfl,e8,hL8⟩ (fun i σ H' _ ⟨_,_,_,_,_,_,e,_⟩=>B5.of e) ?_ ?_
  ·rintro i u σ H9 hu ⟨ag,v5,v7,v8,v9,rfl,el,hL⟩
   rw [List.getElem?_map] at hu
   obtain ⟨c,hc,rfl⟩ := Option.map_eq_some_iff.mp hu
   refine ⟨_,rfl,c,rfl,hcb c (List.mem_of_getElem? hc),fun r uz mB=>?_⟩
   have JX:=Ce r (show (0:Int) < 2 by decide)
   refine ⟨_,rfl,_,_,rfl,rfl,by simp,?_⟩
   dsimp only
   generalize hat0:r % 2 = tI at JX ⊢
   obtain ⟨t,rfl⟩ : ∃ t:Nat,tI = t:=⟨tI.toNat,by omega⟩
   have gP:t < 2:=by omega
   obtain ⟨h0,h1,b0,b1,w0,w1,ed,eh,et,es,hC⟩ := id hL
   obtain ⟨p,TB,b,ws,ls,cm,n,tv,dM,ep,HH,eb,hD,ha,hb,hT,dR,dZ,aS,iE⟩ := hC t gP
   have lX:G4 [V.ref x0,V.ref x1] (t:Int) = some (.ref (tw x0 x1 t)):=by rw [Dd gP,T4]
   have mW:G4 [h0,h1] (t:Int) = some (.ref p):=by rw [Dd gP,ep]
   have qZ:G4 [b0,b1] (t:Int) = some (.ref TB):=by rw [Dd gP,HH]
   have tT:G4 [w0,w1] (t:Int) = some (.ref b):=by rw [Dd gP,eb]
   obtain ⟨a',b',YG,hx,_⟩ := id hD
   have hl:ls.length = ws.length:=(G1 iE).1
   refine ⟨_,rfl,_,_,rfl,rfl,⟨by decide,by decide⟩,_,_,rfl,rfl,by simp,_,_,rfl,rfl,_,rfl,E9 (fun _=>?_) (fun _=>?_)⟩
   ·refine ⟨_,rfl,_,_,rfl,rfl,⟨by decide,by decide⟩,_,rfl,_,rfl,ds,_,_,_,rfl,rfl,.inl (B5.of ed),lX,_,rfl,_,rfl,hs,_,_,_,rfl,rfl,.inl (B5.of eh),mW,_,rfl,_,rfl,ts,_,_,_,rfl,rfl,.inl (B5.of et),qZ,_,rfl,_,rfl,ss,_,_,_,rfl,rfl,.inl (B5.of es),tT,_,tw x0 x1 t,tw jJ jK t,p,TB,b,ws,ls,cm,n,tv,dM,rfl,by omega,hD,ha,hb,hT,dR,dZ,aS,hl,fun kL lA=>?_⟩
    exact ⟨_,rfl,Az rfl ⟨ag,_,_,_,_,rfl,lA _ _ el,hL.same lA⟩⟩
   refine ⟨_,rfl,_,_,rfl,rfl,⟨by decide,by decide⟩,_,_,rfl,rfl,by simp,rfl,_,rfl,E9 (fun _=>?_) (fun _=>?_)⟩
   ·refine ⟨_,rfl,_,rfl,ds,_,_,_,rfl,rfl,.inl (B5.of ed),lX,_,rfl,_,_,rfl,rfl,⟨by decide,by decide⟩,tw x0 x1 t,tw jJ jK t,_,_,_,_,_,rfl,hx,(fun z=>by cases z),fun kL lA=>?_⟩
    exact ⟨_,rfl,Az rfl ⟨ag,_,_,_,_,rfl,lA _ _ el,hL.same lA⟩⟩
   refine ⟨_,rfl,_,_,rfl,rfl,⟨by decide,by decide⟩,_,_,rfl,rfl,by simp,rfl,_,rfl,decide (ag < 3),(fun _ Q' z=>⟨_,rfl,_,_,rfl,rfl,_,rfl,z⟩),E9 (fun _=>?_) (fun _=>?_)⟩
   ·refine ⟨_,rfl,_,_,rfl,rfl,?_⟩
    refine ⟨_,rfl,_,_,rfl,rfl,⟨by decide,by decide⟩,_,rfl,by omega,fun p2 YO oV kL lA fA jN=>?_⟩
    have xl:=lA _ _ eh
    refine ⟨_,rfl,_,rfl,hs,_,_,_,rfl,rfl,xl,Gs (by simpa using gP),?_⟩
    rw [K0 gP]
    have SF:Jp kL (upd kL hs (.lst [if 0 = t then V.ref p2 else h0,if 1 = t then V.ref p2 else h1])):=Jp.put xl
    have GP:(upd kL hs (.lst [if 0 = t then V.ref p2 else h0,if 1 = t then V.ref p2 else h1])) hs = some (.lst [if 0 = t then V.ref p2 else h0,if 1 = t then V.ref p2 else h1]):=A1
    have HI:∀ {a:Addr} {o:HO},a ≠ hs -> kL a = some o -> (upd kL hs (.lst [if 0 = t then V.ref p2 else h0,if 1 = t then V.ref p2 else h1])) a = some o:=fun n e=>(A8 n).trans e
    generalize upd kL hs (.lst [if 0 = t then V.ref p2 else h0,if 1 = t then V.ref p2 else h1]) = QV at SF GP HI ⊢
    have MC:=HI (Ne.symm nth) (lA _ _ et)
    have kQ:G4 [if 0 = t then V.ref p2 else h0,if 1 = t then V.ref p2 else h1] (t:Int) = some (.ref p2):=by rw [Dd gP,Iu gP,if_pos rfl]
    refine ⟨_,rfl,_,rfl,hs,_,_,_,rfl,rfl,.inl (B5.of GP),kQ,.inl ⟨p2,_,_,rfl,fA.lQ SF,jN.rk.1,jN.rk.2.1,jN.rk.2.2.1,jN.rk.2.2.2,jN.2.2.2.1,jN.2.2.2.2,fun mX YQ HJ hTB2 eC eT2 HC LN LO=>?_⟩⟩
    have xm:=eC _ _ MC
    refine ⟨_,rfl,_,rfl,ts,_,_,_,rfl,rfl,xm,Gs (by simpa using gP),?_⟩
    rw [K0 gP]
    have SG:Jp HJ (upd HJ ts (.lst [if 0 = t then V.ref mX else b0,if 1 = t then V.ref mX else b1])):=Jp.put xm
    have YR:(upd HJ ts (.lst [if 0 = t then V.ref mX else b0,if 1 = t then V.ref mX else b1])) ts = some (.lst [if 0 = t then V.ref mX else b0,if 1 = t then V.ref mX else b1]):=A1
    have HK:∀ {a:Addr} {o:HO},a ≠ ts -> HJ a = some o -> (upd HJ ts (.lst [if 0 = t then V.ref mX else b0,if 1 = t then V.ref mX else b1])) a = some o:=fun n e=>(A8 n).trans e
    generalize upd HJ ts (.lst [if 0 = t then V.ref mX else b0,if 1 = t then V.ref mX else b1]) = H13 at SG YR HK ⊢
    have xn:=HK nth (eC _ _ GP)
    have r6:=(SF.trans (Jp.of eC)).trans SG
    refine ⟨_,rfl,_,rfl,hs,_,_,_,rfl,rfl,.inl (B5.of xn),kQ,p2,_,_,rfl,fA.lQ r6,fun b2 HL sH gY=>?_⟩
    have xo:=sH _ _ (HK (Ne.symm YL) (eC _ _ (HI (Ne.symm YK) (lA _ _ es))))
    refine ⟨_,rfl,_,rfl,ss,_,_,_,rfl,rfl,xo,Gs (by simpa using gP),?_⟩
    rw [K0 gP]
    have MD:Jp HL (upd HL ss (.lst [if 0 = t then V.ref b2 else w0,if 1 = t then V.ref b2 else w1])):=Jp.put xo
    have e15:(upd HL ss (.lst [if 0 = t then V.ref b2 else w0,if 1 = t then V.ref b2 else w1])) ss = some (.lst [if 0 = t then V.ref b2 else w0,if 1 = t then V.ref b2 else w1]):=A1
    have HM:∀ {a:Addr} {o:HO},a ≠ ss -> HL a = some o -> (upd HL ss (.lst [if 0 = t then V.ref b2 else w0,if 1 = t then V.ref b2 else w1])) a = some o:=fun n e=>(A8 n).trans e
    generalize upd HL ss (.lst [if 0 = t then V.ref b2 else w0,if 1 = t then V.ref b2 else w1]) = YS at MD e15 HM ⊢
    have r8:=(r6.trans (Jp.of sH)).trans MD
    have uR:=(Jp.of sH).trans MD
    have xp:=HM YK (sH _ _ xn)
    have ME:=HM YL (sH _ _ YR)
    have MF:=HM nsd (sH _ _ (HK ntd (eC _ _ (HI nhd (lA _ _ ed)))))
    have YT:=HM nls (sH _ _ (HK nlt (eC _ _ (HI nlh (lA _ _ el)))))
    have xq:=(Jp.of lA).trans r8
    have gB:=xq _ _ hx (fun _=>HO.noConfusion)
    have xr:=fA.lQ r8
    have YU:=gY.lQ MD
    have MG:=(SG.trans uR) _ _ eT2 (fun _=>HO.noConfusion)
    have oj:Ct YO oV YQ:=⟨HC,LN,LO⟩
    have xt:G4 [if 0 = t then V.ref mX else b0,if 1 = t then V.ref mX else b1] (t:Int) = some (.ref mX):=by rw [Dd gP,Iu gP,if_pos rfl]
    have YV:∀ j,j < 2 -> j ≠ t -> Jd aF YS (tw x0 x1 j) (tw jJ jK j) (tw h0 h1 j) (tw b0 b1 j) (tw w0 w1 j):=fun j hj _=>(hC j hj).lQ xq
    clear HI HK HM SF SG MD r6 uR r8 xq hL hC ed eh et es el GP xl xn MC xm YR xo hx ha hb hT hD eT2
    refine ⟨_,rfl,_,rfl,ds,_,_,_,rfl,rfl,.inl (B5.of MF),lX,_,rfl,_,rfl,hs,_,_,_,rfl,rfl,.inl (B5.of xp),kQ,p2,_,_,rfl,xr,jN,fun row H16 s16 dU=>?_⟩
    have MH:=s16 _ _ gB
    refine ⟨tw x0 x1 t,tw jJ jK t,row,_,rfl,MH,rfl,.inr ⟨tw x0 x1 t,tw jJ jK t,row,Str.ofString "hall",_,_,_,_,_,_,rfl,MH,dU,(fun z=>absurd z (by decide)),(fun z=>absurd z (by decide)),.inl ⟨rfl,jN,fun tv3 H17 b17 YW r9=>⟨_,rfl,?_⟩⟩⟩⟩
    have bb:Da (tw x0 x1 t) YS H17:=(Da.of s16).trans b17
    refine ⟨_,rfl,_,rfl,hs,_,_,_,rfl,rfl,.inl (B5.of (bb.lst gB xp)),kQ,_,rfl,_,rfl,ts,_,_,_,rfl,rfl,.inl (B5.of (bb.lst gB ME)),xt,p2,mX,_,_,YQ,rfl,xr.but bb gB,bb.dT gB MG,oj,fun H18 s18=>?_⟩
    refine ⟨_,_,Ek (Gz r9),Ek (Gz oj),(by show 0 <= 60; decide),_,rfl,Az ?_ ?_⟩
    ·show (!PyData.eqv _ _) = false
     rw [Q6 r9 oj,Gp]
     rfl
    have bc:Da (tw x0 x1 t) YS H18:=bb.trans (Da.of s18)
    refine ⟨_,_,_,_,_,rfl,bc.lst gB YT,_,_,_,_,_,_,bc.lst gB MF,bc.lst gB xp,bc.lst gB ME,bc.lst gB e15,fun j hj=>?_⟩
    rw [Iu hj,Iu hj,Iu hj]
    by_cases e:j = t
    ·subst e
     rw [if_pos rfl,if_pos rfl,if_pos rfl]
     exact ⟨p2,mX,b2,YO,YO,oV,0,tv3,YQ,rfl,rfl,rfl,YW.same s18,xr.but bc gB,YU.but bc gB,bc.dT gB MG,r9,oj,jN,Ft jN⟩
    ·rw [if_neg e,if_neg e,if_neg e]
     exact (YV j hj e).but bc gB (Tw tR hj gP e)
   refine ⟨_,rfl,_,rfl,ds,_,_,_,rfl,rfl,.inl (B5.of ed),lX,_,rfl,_,rfl,hs,_,_,_,rfl,rfl,.inl (B5.of eh),mW,_,rfl,_,rfl,ss,_,_,_,rfl,rfl,.inl (B5.of es),tT,_,rfl,_,_,rfl,rfl,⟨by decide,by decide⟩,tw x0 x1 t,tw jJ jK t,p,b,ws,ls,cm,n,_,tv,rfl,by omega,hD,ha,hb,aS,iE,fun b2 ls2 q2 kL uS gY jL YX=>?_⟩
   have MI:=uS.lst hx es
   refine ⟨_,rfl,_,rfl,ss,_,_,_,rfl,rfl,MI,Gs (by simpa using gP),?_⟩
   rw [K0 gP]
   have k:Jp kL (upd kL ss (.lst [if 0 = t then .ref b2 else w0,if 1 = t then .ref b2 else w1])):=Jp.put MI
   refine ⟨ag,_,_,_,_,rfl,(A8 nls).trans (uS.lst hx el),h0,h1,b0,b1,_,_,(A8 nsd).trans (uS.lst hx ed),(A8 YK).trans (uS.lst hx eh),(A8 YL).trans (uS.lst hx et),A1,fun j hj=>?_⟩
   rw [Iu hj]
   by_cases e:j = t
   ·subst e
    rw [if_pos rfl,ep,HH]
    exact ⟨p,TB,b2,ws,ls2,cm,q2,tv,dM,rfl,rfl,rfl,jL.lQ k,(ha.but uS hx).lQ k,gY.lQ k,k _ _ (uS.dT hx hT) (fun _=>HO.noConfusion),dR,dZ,aS,YX⟩
   ·rw [if_neg e]
    exact ((hC j hj).but uS hx (Tw tR hj gP e)).lQ k
  rintro σ H9 ⟨ag,v5,v7,v8,v9,rfl,_,hL⟩
  refine ⟨6,rfl,by decide,by decide,?_⟩
  refine Fu (n:=(6:Int).toNat) (fun i σ H'=>∃ v5:Option V,σ = [some (.ref a),some (.ref ds),some (.ref hs),some (.ref ts),some (.ref ss),v5,some (.int ag),v7,v8,v9] /\ Ls aF H' x0 x1 jJ jK ds hs ts ss) ⟨_,rfl,hL⟩ ?_ ?_
  ·rintro i σ kL hi ⟨v5,rfl,hL⟩
   have hi:i < 6:=hi
   have hm:=Ce (0 + (i:Int)) (show (0:Int) < 2 by decide)
   obtain ⟨t,SH⟩ : ∃ t:Nat,(0 + (i:Int)) % 2 = t:=⟨((0 + (i:Int)) % 2).toNat,by omega⟩
   have gP:t < 2:=by omega
   obtain ⟨h0,h1,b0,b1,w0,w1,ed,eh,et,es,hC⟩ := id hL
   obtain ⟨p,TB,b,ws,ls,cm,n,tv,dM,ep,HH,eb,hD,ha,hb,hT,dR,dZ,aS,iE⟩ := hC t gP
   have lX:G4 [V.ref x0,V.ref x1] ((0 + (i:Int)) % 2) = some (.ref (tw x0 x1 t)):=by rw [SH,Dd gP,T4]
   have mW:G4 [h0,h1] ((0 + (i:Int)) % 2) = some (.ref p):=by rw [SH,Dd gP,ep]
   have qZ:G4 [b0,b1] ((0 + (i:Int)) % 2) = some (.ref TB):=by rw [SH,Dd gP,HH]
   have tT:G4 [w0,w1] ((0 + (i:Int)) % 2) = some (.ref b):=by rw [SH,Dd gP,eb]
   have hl:ls.length = ws.length:=(G1 iE).1
   refine ⟨_,rfl,_,_,rfl,rfl,⟨by decide,by decide⟩,_,rfl,_,rfl,_,_,rfl,rfl,by simp,ds,_,_,_,rfl,rfl,.inl (B5.of ed),lX,_,rfl,_,rfl,_,_,rfl,rfl,by simp,hs,_,_,_,rfl,rfl,.inl (B5.of eh),mW,_,rfl,_,rfl,_,_,rfl,rfl,by simp,ts,_,_,_,rfl,rfl,.inl (B5.of et),qZ,_,rfl,_,rfl,_,_,rfl,rfl,by simp,ss,_,_,_,rfl,rfl,.inl (B5.of es),tT,_,tw x0 x1 t,tw jJ jK t,p,TB,b,ws,ls,cm,n,tv,dM,rfl,by omega,hD,ha,hb,hT,dR,dZ,aS,hl,fun QV s11=>?_⟩
   exact ⟨_,rfl,Az rfl ⟨_,rfl,hL.same s11⟩⟩
  rintro σ kL _
  exact q kL
end
theorem all_mk {l : PySem.W.OpenLaw} {w : World} {K : PySem.W.Frag} {h : Heap} {mg : Str -> Option Value} {fa : Addr} (X : K.In h) (G : h.Ns mainGlobals mg) (hfa : mg "law" = some (.ref fa)) {aX aV aY bJ cO bA cP aW bB bC cN bK bL bM cQ bN cR bD bE bO bG bH bP bQ bR bS bT cS cT bU cU cV bV cW bI bW bX bZ cA cB cC aZ cD cE cF cH cJ aC aA aE aB aD aI aK aL aM aO aP aN aF aJ aH aG : Addr} {xu mY xv xw xx xy xA xB MJ MK xC xD ML MM xE mZ xF xG xH nj MN MO xI xJ xK xM xN xO MP MQ xP xQ MR MS xR xS xU xV xW xX xY xZ y0 y4 y6 y8 y9 ya yb yc yd ye yf yg MT MU MV MW yh yi MX MY MZ NA yj yk NB NC yl ym yn yo yp yq yr yt yu yv yw yx yy yz yA yB yC yD yE yF yG yH yI yJ yK rf : Option Addr} {yL yM yN yO ND yP NF yQ yR yS NG yT yU yV NH yW NI yX yY yZ z6 z7 z8 z9 za zb zc NJ NK zd NL NM ze NN zf zg zh zi zj zk zl zm zo zp zq zr zt : Array (Option Value)} {zu nk nq nr kR nt zv zw zx zy rg zz zA zB zC zD rh zE zF zG zH zI rj zJ NO NP NQ NR uT NS zK zL zM zN rl zO NT NU NV NW uU NX zP nv ny nz kS nA zQ zR zS zT rm zU zV nB nC nD kT nF NY NZ OA OB uV OC zW zX zY zZ rn AA AB AD AE AF rq AG AH AI AJ AK rA AL OD OE OF OG uW OH AM AN AO AQ rB AR OI OJ OK OL uX OM AS AU AV AW rC AX AY AZ BA BB rD BC BD BE BF BG rE BH BI BJ BK BL rF BM BN BO BP BQ rG BR BS BU BV BW rH BX BZ CA CB CC rJ CD CF CG CH CI rK CJ CK CL CM CN rL CO CP CQ CS CT rM CU ON OO OP OQ uY OS OT OU OV OW uZ OX CV CW CY CZ rN DA OY OZ PB PD va PF PH PJ PK PL vc PM DB DC DD DE rO DF PN PQ PR PU vd PV DG DH DI DJ rP DK DL DM DN DP rQ DQ DR DS DT DU rR DV DW DX DY DZ rS EA EB EC ED EE rT EF EG EH EI EJ rV EK EL EM EN EO rX ER ES ET EU EV rY EW EX EY EZ FA rZ FC FD FE FF FG sd FH FI FJ FK FL se FN FO FP FQ FR sf FT FU sh si sj nG sk : Value} {kU : Addr} {FV : Value} {FW : Option Addr} {FX : Nat} {FY : Array (Option Value)} {kW : Addr} {FZ : Value} {GA : Option Addr} {GB : Nat} {GC : Array (Option Value)} {kX : Addr} {GD : Value} {GF : Option Addr} {GG : Nat} {GH : Array (Option Value)}
  (a_x37:PySem.W.nsIn K mainGlobals "hall_of" = some (some (.ref aX))) (l_x37:K.lookup aX = some ⟨zu,xu,.func (PySem.W.fnOf "hall_of" "hall_of" (Ag Fd) (Ac Fd) (A4 Fd) (.ref kU) nk nq nr mY kR nt),yL⟩) (c_x37:PySem.W.codeIn K kR "hall_of" = true) (k_x37:PySem.W.keepIn K (.ref aX) = true) (t_x37:K.lookup kU = some ⟨FV,FW,.seq #[Value.none] FX,FY⟩)
  (a_x23:PySem.W.nsIn K mainGlobals "beginning" = some (some (.ref aV))) (l_x23:K.lookup aV = some ⟨zv,xv,.func (PySem.W.fnOf "beginning" "beginning" (Ag N6) (Ac N6) (A4 N6) .none zw zx zy xw rg zz),yM⟩) (c_x23:PySem.W.codeIn K rg "beginning" = true) (k_x23:PySem.W.keepIn K (.ref aV) = true)
  (a_x29:PySem.W.nsIn K mainGlobals "may_lose" = some (some (.ref aY))) (l_x29:K.lookup aY = some ⟨zA,xx,.func (PySem.W.fnOf "may_lose" "may_lose" (Ag N9) (Ac N9) (A4 N9) .none zB zC zD xy rh zE),yN⟩) (c_x29:PySem.W.codeIn K rh "may_lose" = true) (k_x29:PySem.W.keepIn K (.ref aY) = true)
  (a_x14:PySem.W.nsIn K mainGlobals "is_listener" = some (some (.ref bJ))) (l_x14:K.lookup bJ = some ⟨zF,xA,.func (PySem.W.fnOf "is_listener" "is_listener" (Ag N1) (Ac N1) (A4 N1) .none zG zH zI xB rj zJ),yO⟩) (c_x14:PySem.W.codeIn K rj "is_listener" = true) (k_x14:PySem.W.keepIn K (.ref bJ) = true)
  (a_x2:PySem.W.nsIn K mainGlobals "refuse_wrong_turn" = some (some (.ref cO))) (l_x2:K.lookup cO = some ⟨NO,MJ,.func (PySem.W.fnOf "refuse_wrong_turn" "refuse_wrong_turn" (Ag Vf) (Ac Vf) (A4 Vf) .none NP NQ NR MK uT NS),ND⟩) (c_x2:PySem.W.codeIn K uT "refuse_wrong_turn" = true) (k_x2:PySem.W.keepIn K (.ref cO) = true)
  (a_x15:PySem.W.nsIn K mainGlobals "left_behind" = some (some (.ref bA))) (l_x15:K.lookup bA = some ⟨zK,xC,.func (PySem.W.fnOf "left_behind" "left_behind" (Ag Lb) (Ac Lb) (A4 Lb) .none zL zM zN xD rl zO),yP⟩) (c_x15:PySem.W.codeIn K rl "left_behind" = true) (k_x15:PySem.W.keepIn K (.ref bA) = true)
  (a_x8:PySem.W.nsIn K mainGlobals "quiet_behind" = some (some (.ref cP))) (l_x8:K.lookup cP = some ⟨NT,ML,.func (PySem.W.fnOf "quiet_behind" "quiet_behind" (Ag Vl) (Ac Vl) (A4 Vl) .none NU NV NW MM uU NX),NF⟩) (c_x8:PySem.W.codeIn K uU "quiet_behind" = true) (k_x8:PySem.W.keepIn K (.ref cP) = true)
  (a_x42:PySem.W.nsIn K mainGlobals "after" = some (some (.ref aW))) (l_x42:K.lookup aW = some ⟨zP,xE,.func (PySem.W.fnOf "after" "after" (Ag Fe) (Ac Fe) (A4 Fe) (.ref kW) nv ny nz mZ kS nA),yQ⟩) (c_x42:PySem.W.codeIn K kS "after" = true) (k_x42:PySem.W.keepIn K (.ref aW) = true) (t_x42:K.lookup kW = some ⟨FZ,GA,.seq #[Value.bool false] GB,GC⟩)
  (a_x19:PySem.W.nsIn K mainGlobals "all_behind" = some (some (.ref bB))) (l_x19:K.lookup bB = some ⟨zQ,xF,.func (PySem.W.fnOf "all_behind" "all_behind" (Ag N4) (Ac N4) (A4 N4) .none zR zS zT xG rm zU),yR⟩) (c_x19:PySem.W.codeIn K rm "all_behind" = true) (k_x19:PySem.W.keepIn K (.ref bB) = true)
  (a_x16:PySem.W.nsIn K mainGlobals "broken_ones" = some (some (.ref bC))) (l_x16:K.lookup bC = some ⟨zV,xH,.func (PySem.W.fnOf "broken_ones" "broken_ones" (Ag Eu) (Ac Eu) (A4 Eu) (.ref kX) nB nC nD nj kT nF),yS⟩) (c_x16:PySem.W.codeIn K kT "broken_ones" = true) (k_x16:PySem.W.keepIn K (.ref bC) = true) (t_x16:K.lookup kX = some ⟨GD,GF,.seq #[Value.bool false] GG,GH⟩)
  (a_x9:PySem.W.nsIn K mainGlobals "quiet_values" = some (some (.ref cN))) (l_x9:K.lookup cN = some ⟨NY,MN,.func (PySem.W.fnOf "quiet_values" "quiet_values" (Ag Vm) (Ac Vm) (A4 Vm) .none NZ OA OB MO uV OC),NG⟩) (c_x9:PySem.W.codeIn K uV "quiet_values" = true) (k_x9:PySem.W.keepIn K (.ref cN) = true)
  (a_x30:PySem.W.nsIn K mainGlobals "how_many" = some (some (.ref bK))) (l_x30:K.lookup bK = some ⟨zW,xI,.func (PySem.W.fnOf "how_many" "how_many" (Ag Na) (Ac Na) (A4 Na) .none zX zY zZ xJ rn AA),yT⟩) (c_x30:PySem.W.codeIn K rn "how_many" = true) (k_x30:PySem.W.keepIn K (.ref bK) = true)
  (a_x31:PySem.W.nsIn K mainGlobals "all_left" = some (some (.ref bL))) (l_x31:K.lookup bL = some ⟨AB,xK,.func (PySem.W.fnOf "all_left" "all_left" (Ag Li) (Ac Li) (A4 Li) .none AD AE AF xM rq AG),yU⟩) (c_x31:PySem.W.codeIn K rq "all_left" = true) (k_x31:PySem.W.keepIn K (.ref bL) = true)
  (a_x24:PySem.W.nsIn K mainGlobals "standings" = some (some (.ref bM))) (l_x24:K.lookup bM = some ⟨AH,xN,.func (PySem.W.fnOf "standings" "standings" (Ag Ld) (Ac Ld) (A4 Ld) .none AI AJ AK xO rA AL),yV⟩) (c_x24:PySem.W.codeIn K rA "standings" = true) (k_x24:PySem.W.keepIn K (.ref bM) = true)
  (a_x3:PySem.W.nsIn K mainGlobals "calls_by_standing" = some (some (.ref cQ))) (l_x3:K.lookup cQ = some ⟨OD,MP,.func (PySem.W.fnOf "calls_by_standing" "calls_by_standing" (Ag Vg) (Ac Vg) (A4 Vg) .none OE OF OG MQ uW OH),NH⟩) (c_x3:PySem.W.codeIn K uW "calls_by_standing" = true) (k_x3:PySem.W.keepIn K (.ref cQ) = true)
  (a_x38:PySem.W.nsIn K mainGlobals "ways_to" = some (some (.ref bN))) (l_x38:K.lookup bN = some ⟨AM,xP,.func (PySem.W.fnOf "ways_to" "ways_to" (Ag Ni) (Ac Ni) (A4 Ni) .none AN AO AQ xQ rB AR),yW⟩) (c_x38:PySem.W.codeIn K rB "ways_to" = true) (k_x38:PySem.W.keepIn K (.ref bN) = true)
  (a_x1:PySem.W.nsIn K mainGlobals "without_calls_left" = some (some (.ref cR))) (l_x1:K.lookup cR = some ⟨OI,MR,.func (PySem.W.fnOf "without_calls_left" "without_calls_left" (Ag Ve) (Ac Ve) (A4 Ve) .none OJ OK OL MS uX OM),NI⟩) (c_x1:PySem.W.codeIn K uX "without_calls_left" = true) (k_x1:PySem.W.keepIn K (.ref cR) = true)
  (a_x43:PySem.W.nsIn K mainGlobals "ranks" = some (some (.ref bD))) (l_x43:K.lookup bD = some ⟨AS,xR,.func (PySem.W.fnOf "ranks" "ranks" (Ag Ll) (Ac Ll) (A4 Ll) .none AU AV AW xS rC AX),yX⟩) (c_x43:PySem.W.codeIn K rC "ranks" = true) (k_x43:PySem.W.keepIn K (.ref bD) = true)
  (a_x44:PySem.W.nsIn K mainGlobals "worth" = some (some (.ref bE))) (l_x44:K.lookup bE = some ⟨AY,xU,.func (PySem.W.fnOf "worth" "worth" (Ag Nk) (Ac Nk) (A4 Nk) .none AZ BA BB xV rD BC),yY⟩) (c_x44:PySem.W.codeIn K rD "worth" = true) (k_x44:PySem.W.keepIn K (.ref bE) = true)
  (a_x20:PySem.W.nsIn K mainGlobals "call_worth" = some (some (.ref bO))) (l_x20:K.lookup bO = some ⟨BD,xW,.func (PySem.W.fnOf "call_worth" "call_worth" (Ag Lc) (Ac Lc) (A4 Lc) .none BE BF BG xX rE BH),yZ⟩) (c_x20:PySem.W.codeIn K rE "call_worth" = true) (k_x20:PySem.W.keepIn K (.ref bO) = true)
  (a_x25:PySem.W.nsIn K mainGlobals "best_call" = some (some (.ref bG))) (l_x25:K.lookup bG = some ⟨BI,xY,.func (PySem.W.fnOf "best_call" "best_call" (Ag Lg) (Ac Lg) (A4 Lg) .none BJ BK BL xZ rF BM),z6⟩) (c_x25:PySem.W.codeIn K rF "best_call" = true) (k_x25:PySem.W.keepIn K (.ref bG) = true)
  (a_x10:PySem.W.nsIn K mainGlobals "worst_answer" = some (some (.ref bH))) (l_x10:K.lookup bH = some ⟨BN,y0,.func (PySem.W.fnOf "worst_answer" "worst_answer" (Ag My) (Ac My) (A4 My) .none BO BP BQ y4 rG BR),z7⟩) (c_x10:PySem.W.codeIn K rG "worst_answer" = true) (k_x10:PySem.W.keepIn K (.ref bH) = true)
  (a_x26:PySem.W.nsIn K mainGlobals "is_number" = some (some (.ref bP))) (l_x26:K.lookup bP = some ⟨BS,y6,.func (PySem.W.fnOf "is_number" "is_number" (Ag Lh) (Ac Lh) (A4 Lh) .none BU BV BW y8 rH BX),z8⟩) (c_x26:PySem.W.codeIn K rH "is_number" = true) (k_x26:PySem.W.keepIn K (.ref bP) = true)
  (a_x21:PySem.W.nsIn K mainGlobals "numbers_of" = some (some (.ref bQ))) (l_x21:K.lookup bQ = some ⟨BZ,y9,.func (PySem.W.fnOf "numbers_of" "numbers_of" (Ag J6) (Ac J6) (A4 J6) .none CA CB CC ya rJ CD),z9⟩) (c_x21:PySem.W.codeIn K rJ "numbers_of" = true) (k_x21:PySem.W.keepIn K (.ref bQ) = true)
  (a_x45:PySem.W.nsIn K mainGlobals "takes" = some (some (.ref bR))) (l_x45:K.lookup bR = some ⟨CF,yb,.func (PySem.W.fnOf "takes" "takes" (Ag Nl) (Ac Nl) (A4 Nl) .none CG CH CI yc rK CJ),za⟩) (c_x45:PySem.W.codeIn K rK "takes" = true) (k_x45:PySem.W.keepIn K (.ref bR) = true)
  (a_x32:PySem.W.nsIn K mainGlobals "row_read" = some (some (.ref bS))) (l_x32:K.lookup bS = some ⟨CK,yd,.func (PySem.W.fnOf "row_read" "row_read" (Ag Nb) (Ac Nb) (A4 Nb) .none CL CM CN ye rL CO),zb⟩) (c_x32:PySem.W.codeIn K rL "row_read" = true) (k_x32:PySem.W.keepIn K (.ref bS) = true)
  (a_x11:PySem.W.nsIn K mainGlobals "numbers_text" = some (some (.ref bT))) (l_x11:K.lookup bT = some ⟨CP,yf,.func (PySem.W.fnOf "numbers_text" "numbers_text" (Ag La) (Ac La) (A4 La) .none CQ CS CT yg rM CU),zc⟩) (c_x11:PySem.W.codeIn K rM "numbers_text" = true) (k_x11:PySem.W.keepIn K (.ref bT) = true)
  (i_x6:PySem.W.isFn K (.ref cS) = true) (l_x6:K.lookup cS = some ⟨ON,MT,.func (PySem.W.fnOf "__init__" "Desk.__init__" (Ag Vj) (Ac Vj) (A4 Vj) .none OO OP OQ MU uY OS),NJ⟩) (c_x6:PySem.W.codeIn K uY "Desk.__init__" = true) (k_x6:PySem.W.keepIn K (.ref cS) = true)
  (i_x0:PySem.W.isFn K (.ref cT) = true) (l_x0:K.lookup cT = some ⟨OT,MV,.func (PySem.W.fnOf "refuse_without_stand" "Desk.refuse_without_stand" (Ag Vd) (Ac Vd) (A4 Vd) .none OU OV OW MW uZ OX),NK⟩) (c_x0:PySem.W.codeIn K uZ "Desk.refuse_without_stand" = true) (k_x0:PySem.W.keepIn K (.ref cT) = true)
  (i_x33:PySem.W.isFn K (.ref bU) = true) (l_x33:K.lookup bU = some ⟨CV,yh,.func (PySem.W.fnOf "put" "Desk.put" (Ag Nd) (Ac Nd) (A4 Nd) .none CW CY CZ yi rN DA),zd⟩) (c_x33:PySem.W.codeIn K rN "Desk.put" = true) (k_x33:PySem.W.keepIn K (.ref bU) = true)
  (i_x7:PySem.W.isFn K (.ref cU) = true) (l_x7:K.lookup cU = some ⟨OY,MX,.func (PySem.W.fnOf "new_hall" "Desk.new_hall" (Ag Vk) (Ac Vk) (A4 Vk) .none OZ PB PD MY va PF),NL⟩) (c_x7:PySem.W.codeIn K va "Desk.new_hall" = true) (k_x7:PySem.W.keepIn K (.ref cU) = true)
  (i_x5:PySem.W.isFn K (.ref cV) = true) (l_x5:K.lookup cV = some ⟨PH,MZ,.func (PySem.W.fnOf "rank_text" "Desk.rank_text" (Ag Vi) (Ac Vi) (A4 Vi) .none PJ PK PL NA vc PM),NM⟩) (c_x5:PySem.W.codeIn K vc "Desk.rank_text" = true) (k_x5:PySem.W.keepIn K (.ref cV) = true)
  (i_x12:PySem.W.isFn K (.ref bV) = true) (l_x12:K.lookup bV = some ⟨DB,yj,.func (PySem.W.fnOf "do_turn" "Desk.do_turn" (Ag Mz) (Ac Mz) (A4 Mz) .none DC DD DE yk rO DF),ze⟩) (c_x12:PySem.W.codeIn K rO "Desk.do_turn" = true) (k_x12:PySem.W.keepIn K (.ref bV) = true)
  (i_x4:PySem.W.isFn K (.ref cW) = true) (l_x4:K.lookup cW = some ⟨PN,NB,.func (PySem.W.fnOf "told_of_one" "Desk.told_of_one" (Ag Vh) (Ac Vh) (A4 Vh) .none PQ PR PU NC vd PV),NN⟩) (c_x4:PySem.W.codeIn K vd "Desk.told_of_one" = true) (k_x4:PySem.W.keepIn K (.ref cW) = true)
  (i_x27:PySem.W.isFn K (.ref bI) = true) (l_x27:K.lookup bI = some ⟨DG,yl,.func (PySem.W.fnOf "told" "Desk.told" (Ag N7) (Ac N7) (A4 N7) .none DH DI DJ ym rP DK),zf⟩) (c_x27:PySem.W.codeIn K rP "Desk.told" = true) (k_x27:PySem.W.keepIn K (.ref bI) = true)
  (a_x17:PySem.W.nsIn K mainGlobals "_law_cell_at" = some (some (.ref bW))) (l_x17:K.lookup bW = some ⟨DL,yn,.func (PySem.W.fnOf "_law_cell_at" "_law_cell_at" (Ag N2) (Ac N2) (A4 N2) .none DM DN DP yo rQ DQ),zg⟩) (c_x17:PySem.W.codeIn K rQ "_law_cell_at" = true) (k_x17:PySem.W.keepIn K (.ref bW) = true)
  (a_x39:PySem.W.nsIn K mainGlobals "_law_big" = some (some (.ref bX))) (l_x39:K.lookup bX = some ⟨DR,yp,.func (PySem.W.fnOf "_law_big" "_law_big" (Ag Nj) (Ac Nj) (A4 Nj) .none DS DT DU yq rR DV),zh⟩) (c_x39:PySem.W.codeIn K rR "_law_big" = true) (k_x39:PySem.W.keepIn K (.ref bX) = true)
  (a_x34:PySem.W.nsIn K mainGlobals "_law_hall" = some (some (.ref bZ))) (l_x34:K.lookup bZ = some ⟨DW,yr,.func (PySem.W.fnOf "_law_hall" "_law_hall" (Ag Nf) (Ac Nf) (A4 Nf) .none DX DY DZ yt rS EA),zi⟩) (c_x34:PySem.W.codeIn K rS "_law_hall" = true) (k_x34:PySem.W.keepIn K (.ref bZ) = true)
  (a_x40:PySem.W.nsIn K mainGlobals "_law_row" = some (some (.ref cA))) (l_x40:K.lookup cA = some ⟨EB,yu,.func (PySem.W.fnOf "_law_row" "_law_row" (Ag Lj) (Ac Lj) (A4 Lj) .none EC ED EE yv rT EF),zj⟩) (c_x40:PySem.W.codeIn K rT "_law_row" = true) (k_x40:PySem.W.keepIn K (.ref cA) = true)
  (a_x28:PySem.W.nsIn K mainGlobals "_law_begun" = some (some (.ref cB))) (l_x28:K.lookup cB = some ⟨EG,yw,.func (PySem.W.fnOf "_law_begun" "_law_begun" (Ag N8) (Ac N8) (A4 N8) .none EH EI EJ yx rV EK),zk⟩) (c_x28:PySem.W.codeIn K rV "_law_begun" = true) (k_x28:PySem.W.keepIn K (.ref cB) = true)
  (a_x35:PySem.W.nsIn K mainGlobals "_law_kind" = some (some (.ref cC))) (l_x35:K.lookup cC = some ⟨EL,yy,.func (PySem.W.fnOf "_law_kind" "_law_kind" (Ag Ng) (Ac Ng) (A4 Ng) .none EM EN EO yz rX ER),zl⟩) (c_x35:PySem.W.codeIn K rX "_law_kind" = true) (k_x35:PySem.W.keepIn K (.ref cC) = true)
  (a_x36:PySem.W.nsIn K mainGlobals "_law_told" = some (some (.ref aZ))) (l_x36:K.lookup aZ = some ⟨ES,yA,.func (PySem.W.fnOf "_law_told" "_law_told" (Ag Nh) (Ac Nh) (A4 Nh) .none ET EU EV yB rY EW),zm⟩) (c_x36:PySem.W.codeIn K rY "_law_told" = true) (k_x36:PySem.W.keepIn K (.ref aZ) = true)
  (a_x18:PySem.W.nsIn K mainGlobals "_law_refused" = some (some (.ref cD))) (l_x18:K.lookup cD = some ⟨EX,yC,.func (PySem.W.fnOf "_law_refused" "_law_refused" (Ag N3) (Ac N3) (A4 N3) .none EY EZ FA yD rZ FC),zo⟩) (c_x18:PySem.W.codeIn K rZ "_law_refused" = true) (k_x18:PySem.W.keepIn K (.ref cD) = true)
  (a_x13:PySem.W.nsIn K mainGlobals "_law_question" = some (some (.ref cE))) (l_x13:K.lookup cE = some ⟨FD,yE,.func (PySem.W.fnOf "_law_question" "_law_question" (Ag N0) (Ac N0) (A4 N0) .none FE FF FG yF sd FH),zp⟩) (c_x13:PySem.W.codeIn K sd "_law_question" = true) (k_x13:PySem.W.keepIn K (.ref cE) = true)
  (a_x41:PySem.W.nsIn K mainGlobals "_law_who" = some (some (.ref cF))) (l_x41:K.lookup cF = some ⟨FI,yG,.func (PySem.W.fnOf "_law_who" "_law_who" (Ag Lk) (Ac Lk) (A4 Lk) .none FJ FK FL yH se FN),zq⟩) (c_x41:PySem.W.codeIn K se "_law_who" = true) (k_x41:PySem.W.keepIn K (.ref cF) = true)
  (a_x22:PySem.W.nsIn K mainGlobals "_law_behind" = some (some (.ref cH))) (l_x22:K.lookup cH = some ⟨FO,yI,.func (PySem.W.fnOf "_law_behind" "_law_behind" (Ag N5) (Ac N5) (A4 N5) .none FP FQ FR yJ sf FT),zr⟩) (c_x22:PySem.W.codeIn K sf "_law_behind" = true) (k_x22:PySem.W.keepIn K (.ref cH) = true)
  (a_law:PySem.W.nsIn K mainGlobals "law" = some (some (.ref cJ))) (l_law:K.lookup cJ = some ⟨FU,yK,.func (PySem.W.fnOf "law" "law" (Ag Fc) (Ac Fc) (A4 Fc) .none sh si sj rf nG sk),zt⟩) (c_law:PySem.W.codeIn K nG "law" = true) (k_law:PySem.W.keepIn K (.ref cJ) = true)
  (pg_Desk:PySem.W.plainGet K aF Str.empty = true) (hd_Desk:PySem.W.hasDictIn K aF = true) (po_Desk:PySem.W.plainOver K aF = true) (sa_Desk:PySem.W.findIn K (.ref aF) "__setattr__" = some (some (.builtin "object.__setattr__"))) (mm_Desk:PySem.W.makesIn K aF = true) (kc_Desk:PySem.W.keepIn K (.ref aF) = true) (fm_x6:PySem.W.findIn K (.ref aF) "__init__" = some (some (.ref cS))) (fm_x27:PySem.W.findIn K (.ref aF) "told" = some (some (.ref bI))) (fm_x4:PySem.W.findIn K (.ref aF) "told_of_one" = some (some (.ref cW))) (fm_x0:PySem.W.findIn K (.ref aF) "refuse_without_stand" = some (some (.ref cT))) (fm_x33:PySem.W.findIn K (.ref aF) "put" = some (some (.ref bU))) (fm_x7:PySem.W.findIn K (.ref aF) "new_hall" = some (some (.ref cU))) (fm_x5:PySem.W.findIn K (.ref aF) "rank_text" = some (some (.ref cV))) (fm_x12:PySem.W.findIn K (.ref aF) "do_turn" = some (some (.ref bV))) (nf_Desk_hall:PySem.W.findIn K (.ref aF) "hall" = some none) (nf_Desk_standing:PySem.W.findIn K (.ref aF) "standing" = some none) (nf_Desk_table:PySem.W.findIn K (.ref aF) "table" = some none) (nf_Desk_wheel:PySem.W.findIn K (.ref aF) "wheel" = some none)
  {nH:Nat} (y_FIGURES:PySem.W.nsIn K mainGlobals "FIGURES" = some (some (.str "0123456789" nH))) {jG jH jO:Nat} {jP:Option Addr} {jQ:Array (Option Value)} (y_ROWS_ALONE:PySem.W.nsIn K mainGlobals "ROWS_ALONE" = some (some (.ref aJ))) (q_ROWS_ALONE:K.lookup aJ = some ⟨.type "tuple",jP,.seq #[.str "best" jG,.str "rank" jH] jO,jQ⟩) {gC gD gE gF gG gH hU:Nat} {hV:Option Addr} {iA:Array (Option Value)} (y_ROWS_WITH_ONE:PySem.W.nsIn K mainGlobals "ROWS_WITH_ONE" = some (some (.ref aH))) (q_ROWS_WITH_ONE:K.lookup aH = some ⟨.type "tuple",hV,.seq #[.str "call" gC,.str "lost" gD,.str "answer" gE,.str "join" gF,.str "leave" gG,.str "turn" gH] hU,iA⟩) {fO fP gI:Nat} {gJ:Option Addr} {gK:Array (Option Value)} (y_ROWS_WITH_SOME:PySem.W.nsIn K mainGlobals "ROWS_WITH_SOME" = some (some (.ref aG))) (q_ROWS_WITH_SOME:K.lookup aG = some ⟨.type "tuple",gJ,.seq #[.str "hall" fO,.str "wheel" fP] gI,gK⟩)
  {gL:Nat} (y_MOST_LISTENERS:PySem.W.nsIn K mainGlobals "MOST_LISTENERS" = some (some (.int 8 gL))) {gM:Nat} (y_MOST_STANDINGS:PySem.W.nsIn K mainGlobals "MOST_STANDINGS" = some (some (.int 3000 gM))) {iK:Nat} (y_MOST_FIGURES:PySem.W.nsIn K mainGlobals "MOST_FIGURES" = some (some (.int 100 iK))) (z_sum:PySem.W.nsIn K mainGlobals "sum" = some none) (z_sorted:PySem.W.nsIn K mainGlobals "sorted" = some none) (z_all:PySem.W.nsIn K mainGlobals "all" = some none) (z_zip:PySem.W.nsIn K mainGlobals "zip" = some none) (z_any:PySem.W.nsIn K mainGlobals "any" = some none) (z_range:PySem.W.nsIn K mainGlobals "range" = some none) (z_len:PySem.W.nsIn K mainGlobals "len" = some none) (z_min:PySem.W.nsIn K mainGlobals "min" = some none) (z_max:PySem.W.nsIn K mainGlobals "max" = some none) (z_set:PySem.W.nsIn K mainGlobals "set" = some none) (z_tuple:PySem.W.nsIn K mainGlobals "tuple" = some none) (z_enumerate:PySem.W.nsIn K mainGlobals "enumerate" = some none) (z_int:PySem.W.nsIn K mainGlobals "int" = some none) (z_isinstance:PySem.W.nsIn K mainGlobals "isinstance" = some none) (z_str:PySem.W.nsIn K mainGlobals "str" = some none) (z_ValueError:PySem.W.nsIn K mainGlobals "ValueError" = some none) (ac_NoHall:PySem.W.nsIn K mainGlobals "NoHall" = some (some (.ref aC))) (ac_NoListener:PySem.W.nsIn K mainGlobals "NoListener" = some (some (.ref aA))) (ac_NoLoss:PySem.W.nsIn K mainGlobals "NoLoss" = some (some (.ref aE))) (ac_TooMany:PySem.W.nsIn K mainGlobals "TooMany" = some (some (.ref aB))) (ac_NoRow:PySem.W.nsIn K mainGlobals "NoRow" = some (some (.ref aD))) (ac_RoundError:PySem.W.nsIn K mainGlobals "RoundError" = some (some (.ref aI))) (ac_NoWheel:PySem.W.nsIn K mainGlobals "NoWheel" = some (some (.ref aK))) (ac_NoChain:PySem.W.nsIn K mainGlobals "NoChain" = some (some (.ref aL))) (ac_TooMuch:PySem.W.nsIn K mainGlobals "TooMuch" = some (some (.ref aM))) (ac_NoPart:PySem.W.nsIn K mainGlobals "NoPart" = some (some (.ref aO))) (ac_Unsafe:PySem.W.nsIn K mainGlobals "Unsafe" = some (some (.ref aP))) (ac_NoStand:PySem.W.nsIn K mainGlobals "NoStand" = some (some (.ref aN))) (ac_Desk:PySem.W.nsIn K mainGlobals "Desk" = some (some (.ref aF))) (e_NoHall:PySem.W.excIn K aC [.type "ValueError",.type "Exception",.type "BaseException",.type "object"] "ValueError.__new__" = true) (e_NoListener:PySem.W.excIn K aA [.type "ValueError",.type "Exception",.type "BaseException",.type "object"] "ValueError.__new__" = true) (e_NoLoss:PySem.W.excIn K aE [.type "ValueError",.type "Exception",.type "BaseException",.type "object"] "ValueError.__new__" = true) (e_TooMany:PySem.W.excIn K aB [.type "ValueError",.type "Exception",.type "BaseException",.type "object"] "ValueError.__new__" = true) (e_NoRow:PySem.W.excIn K aD [.type "ValueError",.type "Exception",.type "BaseException",.type "object"] "ValueError.__new__" = true) (e_RoundError:PySem.W.excIn K aI [.type "ValueError",.type "Exception",.type "BaseException",.type "object"] "ValueError.__new__" = true) (b_RoundError:PySem.W.subIn K (.ref aI) (.type "BaseException") = some true) (xgs:PySem.W.specialIn K (.builtin "object.__class__") "__get__" = some (some (.builtin "getset_descriptor.__get__"))) (xtk:PySem.W.takesIn K (.builtin "object.__class__") = some true) (xga_NoHall:PySem.W.findIn K (.ref aC) "__getattribute__" = some (some (.builtin "BaseException.__getattribute__"))) (xgt_NoHall:PySem.W.findIn K (.ref aC) "__getattr__" = some none) (xcl_NoHall:PySem.W.findIn K (.ref aC) "__class__" = some (some (.builtin "object.__class__"))) (xob_NoHall:PySem.W.mroIn K aC (.type "object") = some true) (xbe_NoHall:PySem.W.subIn K (.ref aC) (.type "BaseException") = some true) (u_NoHall_RoundError:PySem.W.subIn K (.ref aC) (.ref aI) = some true) (j_NoHall_NoHall:PySem.W.kitOne K (.ref aC) (.ref aC) = some true) (j_NoHall_NoListener:PySem.W.kitOne K (.ref aC) (.ref aA) = some false) (j_NoHall_TooMany:PySem.W.kitOne K (.ref aC) (.ref aB) = some false) (j_NoHall_NoRow:PySem.W.kitOne K (.ref aC) (.ref aD) = some false) (j_NoHall_NoLoss:PySem.W.kitOne K (.ref aC) (.ref aE) = some false) (j_NoHall_NoWheel:PySem.W.kitOne K (.ref aC) (.ref aK) = some false) (j_NoHall_NoChain:PySem.W.kitOne K (.ref aC) (.ref aL) = some false) (j_NoHall_TooMuch:PySem.W.kitOne K (.ref aC) (.ref aM) = some false) (j_NoHall_NoPart:PySem.W.kitOne K (.ref aC) (.ref aO) = some false) (j_NoHall_Unsafe:PySem.W.kitOne K (.ref aC) (.ref aP) = some false) (j_NoHall_NoStand:PySem.W.kitOne K (.ref aC) (.ref aN) = some false) (j_NoHall_ValueError:PySem.W.kitOne K (.ref aC) (.type "ValueError") = some true) (xga_NoListener:PySem.W.findIn K (.ref aA) "__getattribute__" = some (some (.builtin "BaseException.__getattribute__"))) (xgt_NoListener:PySem.W.findIn K (.ref aA) "__getattr__" = some none) (xcl_NoListener:PySem.W.findIn K (.ref aA) "__class__" = some (some (.builtin "object.__class__"))) (xob_NoListener:PySem.W.mroIn K aA (.type "object") = some true) (xbe_NoListener:PySem.W.subIn K (.ref aA) (.type "BaseException") = some true) (u_NoListener_RoundError:PySem.W.subIn K (.ref aA) (.ref aI) = some true) (j_NoListener_NoHall:PySem.W.kitOne K (.ref aA) (.ref aC) = some false) (j_NoListener_NoListener:PySem.W.kitOne K (.ref aA) (.ref aA) = some true) (j_NoListener_TooMany:PySem.W.kitOne K (.ref aA) (.ref aB) = some false) (j_NoListener_NoRow:PySem.W.kitOne K (.ref aA) (.ref aD) = some false) (j_NoListener_NoLoss:PySem.W.kitOne K (.ref aA) (.ref aE) = some false) (j_NoListener_NoWheel:PySem.W.kitOne K (.ref aA) (.ref aK) = some false) (j_NoListener_NoChain:PySem.W.kitOne K (.ref aA) (.ref aL) = some false) (j_NoListener_TooMuch:PySem.W.kitOne K (.ref aA) (.ref aM) = some false) (j_NoListener_NoPart:PySem.W.kitOne K (.ref aA) (.ref aO) = some false) (j_NoListener_Unsafe:PySem.W.kitOne K (.ref aA) (.ref aP) = some false) (j_NoListener_NoStand:PySem.W.kitOne K (.ref aA) (.ref aN) = some false) (j_NoListener_ValueError:PySem.W.kitOne K (.ref aA) (.type "ValueError") = some true) (xga_TooMany:PySem.W.findIn K (.ref aB) "__getattribute__" = some (some (.builtin "BaseException.__getattribute__"))) (xgt_TooMany:PySem.W.findIn K (.ref aB) "__getattr__" = some none) (xcl_TooMany:PySem.W.findIn K (.ref aB) "__class__" = some (some (.builtin "object.__class__"))) (xob_TooMany:PySem.W.mroIn K aB (.type "object") = some true) (xbe_TooMany:PySem.W.subIn K (.ref aB) (.type "BaseException") = some true) (u_TooMany_RoundError:PySem.W.subIn K (.ref aB) (.ref aI) = some true) (j_TooMany_NoHall:PySem.W.kitOne K (.ref aB) (.ref aC) = some false) (j_TooMany_NoListener:PySem.W.kitOne K (.ref aB) (.ref aA) = some false) (j_TooMany_TooMany:PySem.W.kitOne K (.ref aB) (.ref aB) = some true) (j_TooMany_NoRow:PySem.W.kitOne K (.ref aB) (.ref aD) = some false) (j_TooMany_NoLoss:PySem.W.kitOne K (.ref aB) (.ref aE) = some false) (j_TooMany_NoWheel:PySem.W.kitOne K (.ref aB) (.ref aK) = some false) (j_TooMany_NoChain:PySem.W.kitOne K (.ref aB) (.ref aL) = some false) (j_TooMany_TooMuch:PySem.W.kitOne K (.ref aB) (.ref aM) = some false) (j_TooMany_NoPart:PySem.W.kitOne K (.ref aB) (.ref aO) = some false) (j_TooMany_Unsafe:PySem.W.kitOne K (.ref aB) (.ref aP) = some false) (j_TooMany_NoStand:PySem.W.kitOne K (.ref aB) (.ref aN) = some false) (j_TooMany_ValueError:PySem.W.kitOne K (.ref aB) (.type "ValueError") = some true) (xga_NoRow:PySem.W.findIn K (.ref aD) "__getattribute__" = some (some (.builtin "BaseException.__getattribute__"))) (xgt_NoRow:PySem.W.findIn K (.ref aD) "__getattr__" = some none) (xcl_NoRow:PySem.W.findIn K (.ref aD) "__class__" = some (some (.builtin "object.__class__"))) (xob_NoRow:PySem.W.mroIn K aD (.type "object") = some true) (xbe_NoRow:PySem.W.subIn K (.ref aD) (.type "BaseException") = some true) (u_NoRow_RoundError:PySem.W.subIn K (.ref aD) (.ref aI) = some true) (j_NoRow_NoHall:PySem.W.kitOne K (.ref aD) (.ref aC) = some false) (j_NoRow_NoListener:PySem.W.kitOne K (.ref aD) (.ref aA) = some false) (j_NoRow_TooMany:PySem.W.kitOne K (.ref aD) (.ref aB) = some false) (j_NoRow_NoRow:PySem.W.kitOne K (.ref aD) (.ref aD) = some true) (j_NoRow_NoLoss:PySem.W.kitOne K (.ref aD) (.ref aE) = some false) (j_NoRow_NoWheel:PySem.W.kitOne K (.ref aD) (.ref aK) = some false) (j_NoRow_NoChain:PySem.W.kitOne K (.ref aD) (.ref aL) = some false) (j_NoRow_TooMuch:PySem.W.kitOne K (.ref aD) (.ref aM) = some false) (j_NoRow_NoPart:PySem.W.kitOne K (.ref aD) (.ref aO) = some false) (j_NoRow_Unsafe:PySem.W.kitOne K (.ref aD) (.ref aP) = some false) (j_NoRow_NoStand:PySem.W.kitOne K (.ref aD) (.ref aN) = some false) (j_NoRow_ValueError:PySem.W.kitOne K (.ref aD) (.type "ValueError") = some true) :
  ∃ fd:FuncData,(∀ (s:Shared) (v:Value),BindsTo s fd ⟨[v],[]⟩ [("script",v)]) /\ ∀ base:Heap,K.In base -> base.Ns mainGlobals mg -> A9 l.prog w K mg base (Ax l.prog w) 12 fa fd ["script"] (Oz K):=by
 have e:=hfa.symm.trans (PySem.W.mg_of X G a_law)
 cases e
 have T:Txt K mg aX aV aY bJ cO bA cP aW bB bC cN bK bL bM cQ bN cR bD bE bO bG bH bP bQ bR bS bT cS cT bU cU cV bV cW bI bW bX bZ cA cB cC aZ cD cE cF cH fa aC aA aE aB aD aI aK aL aM aO aP aN aF aJ aH aG:=⟨PySem.W.mg_of X G a_x37,k_x37,PySem.W.mg_of X G a_x23,k_x23,PySem.W.mg_of X G a_x29,k_x29,PySem.W.mg_of X G a_x14,k_x14,PySem.W.mg_of X G a_x2,k_x2,PySem.W.mg_of X G a_x15,k_x15,PySem.W.mg_of X G a_x8,k_x8,PySem.W.mg_of X G a_x42,k_x42,PySem.W.mg_of X G a_x19,k_x19,PySem.W.mg_of X G a_x16,k_x16,PySem.W.mg_of X G a_x9,k_x9,PySem.W.mg_of X G a_x30,k_x30,PySem.W.mg_of X G a_x31,k_x31,PySem.W.mg_of X G a_x24,k_x24,PySem.W.mg_of X G a_x3,k_x3,PySem.W.mg_of X G a_x38,k_x38,PySem.W.mg_of X G a_x1,k_x1,PySem.W.mg_of X G a_x43,k_x43,PySem.W.mg_of X G a_x44,k_x44,PySem.W.mg_of X G a_x20,k_x20,PySem.W.mg_of X G a_x25,k_x25,PySem.W.mg_of X G a_x10,k_x10,PySem.W.mg_of X G a_x26,k_x26,PySem.W.mg_of X G a_x21,k_x21,PySem.W.mg_of X G a_x45,k_x45,PySem.W.mg_of X G a_x32,k_x32,PySem.W.mg_of X G a_x11,k_x11,PySem.W.mg_of X G a_x17,k_x17,PySem.W.mg_of X G a_x39,k_x39,PySem.W.mg_of X G a_x34,k_x34,PySem.W.mg_of X G a_x40,k_x40,PySem.W.mg_of X G a_x28,k_x28,PySem.W.mg_of X G a_x35,k_x35,PySem.W.mg_of X G a_x36,k_x36,PySem.W.mg_of X G a_x18,k_x18,PySem.W.mg_of X G a_x13,k_x13,PySem.W.mg_of X G a_x41,k_x41,PySem.W.mg_of X G a_x22,k_x22,PySem.W.mg_of X G a_law,k_law,PySem.W.mg_none_of X G z_sum,PySem.W.mg_none_of X G z_sorted,PySem.W.mg_none_of X G z_all,PySem.W.mg_none_of X G z_zip,PySem.W.mg_none_of X G z_any,PySem.W.mg_none_of X G z_range,PySem.W.mg_none_of X G z_len,PySem.W.mg_none_of X G z_min,PySem.W.mg_none_of X G z_max,PySem.W.mg_none_of X G z_set,PySem.W.mg_none_of X G z_tuple,PySem.W.mg_none_of X G z_enumerate,PySem.W.mg_none_of X G z_int,PySem.W.mg_none_of X G z_isinstance,PySem.W.mg_none_of X G z_str,PySem.W.mg_none_of X G z_ValueError,⟨_,PySem.W.mg_of X G y_MOST_LISTENERS⟩,⟨_,PySem.W.mg_of X G y_MOST_STANDINGS⟩,⟨_,PySem.W.mg_of X G y_MOST_FIGURES⟩,⟨_,PySem.W.mg_of X G y_FIGURES⟩,PySem.W.mg_of X G y_ROWS_ALONE,fun H=>.inr ⟨_,_,_,q_ROWS_ALONE,rfl,rfl,(by show 2 <= sizeLine; decide),(.cons ⟨_,rfl⟩ (.cons ⟨_,rfl⟩ .nil))⟩,PySem.W.mg_of X G y_ROWS_WITH_ONE,fun H=>.inr ⟨_,_,_,q_ROWS_WITH_ONE,rfl,rfl,(by show 6 <= sizeLine; decide),(.cons ⟨_,rfl⟩ (.cons ⟨_,rfl⟩ (.cons ⟨_,rfl⟩ (.cons ⟨_,rfl⟩ (.cons ⟨_,rfl⟩ (.cons ⟨_,rfl⟩ .nil))))))⟩,PySem.W.mg_of X G y_ROWS_WITH_SOME,fun H=>.inr ⟨_,_,_,q_ROWS_WITH_SOME,rfl,rfl,(by show 2 <= sizeLine; decide),(.cons ⟨_,rfl⟩ (.cons ⟨_,rfl⟩ .nil))⟩,PySem.W.mg_of X G ac_NoHall,PySem.W.mg_of X G ac_NoListener,PySem.W.mg_of X G ac_NoLoss,PySem.W.mg_of X G ac_TooMany,PySem.W.mg_of X G ac_NoRow,PySem.W.mg_of X G ac_RoundError,PySem.W.mg_of X G ac_NoWheel,PySem.W.mg_of X G ac_NoChain,PySem.W.mg_of X G ac_TooMuch,PySem.W.mg_of X G ac_NoPart,PySem.W.mg_of X G ac_Unsafe,PySem.W.mg_of X G ac_NoStand,PySem.W.mg_of X G ac_Desk,⟨pg_Desk,hd_Desk,po_Desk,sa_Desk⟩,⟨mm_Desk,fm_x6,i_x6,kc_Desk⟩,⟨fm_x27,i_x27,k_x27⟩,⟨fm_x4,i_x4,k_x4⟩,⟨fm_x0,i_x0,k_x0⟩,⟨fm_x33,i_x33,k_x33⟩,⟨fm_x7,i_x7,k_x7⟩,⟨fm_x5,i_x5,k_x5⟩,⟨fm_x12,i_x12,k_x12⟩,nf_Desk_hall,nf_Desk_standing,nf_Desk_table,nf_Desk_wheel,e_NoHall,e_NoListener,e_NoLoss,e_TooMany,e_NoRow,e_RoundError,b_RoundError,xgs,xtk,xga_NoHall,xgt_NoHall,xcl_NoHall,xob_NoHall,xbe_NoHall,u_NoHall_RoundError,j_NoHall_NoHall,j_NoHall_NoListener,j_NoHall_TooMany,j_NoHall_NoRow,j_NoHall_NoLoss,j_NoHall_NoWheel,j_NoHall_NoChain,j_NoHall_TooMuch,j_NoHall_NoPart,j_NoHall_Unsafe,j_NoHall_NoStand,j_NoHall_ValueError,xga_NoListener,xgt_NoListener,xcl_NoListener,xob_NoListener,xbe_NoListener,u_NoListener_RoundError,j_NoListener_NoHall,j_NoListener_NoListener,j_NoListener_TooMany,j_NoListener_NoRow,j_NoListener_NoLoss,j_NoListener_NoWheel,j_NoListener_NoChain,j_NoListener_TooMuch,j_NoListener_NoPart,j_NoListener_Unsafe,j_NoListener_NoStand,j_NoListener_ValueError,xga_TooMany,xgt_TooMany,xcl_TooMany,xob_TooMany,xbe_TooMany,u_TooMany_RoundError,j_TooMany_NoHall,j_TooMany_NoListener,j_TooMany_TooMany,j_TooMany_NoRow,j_TooMany_NoLoss,j_TooMany_NoWheel,j_TooMany_NoChain,j_TooMany_TooMuch,j_TooMany_NoPart,j_TooMany_Unsafe,j_TooMany_NoStand,j_TooMany_ValueError,xga_NoRow,xgt_NoRow,xcl_NoRow,xob_NoRow,xbe_NoRow,u_NoRow_RoundError,j_NoRow_NoHall,j_NoRow_NoListener,j_NoRow_TooMany,j_NoRow_NoRow,j_NoRow_NoLoss,j_NoRow_NoWheel,j_NoRow_NoChain,j_NoRow_TooMuch,j_NoRow_NoPart,j_NoRow_Unsafe,j_NoRow_NoStand,j_NoRow_ValueError⟩
 have PX:Pf K "hall_of" "hall_of" Fd aX _:=⟨⟨_,_,_,_,_,_,_,_,_,_,rfl,l_x37,c_x37⟩⟩
 have vf:=Ay (st:=N6) l_x23 c_x23 k_x23
 have vg:=Ay (st:=N9) l_x29 c_x29 k_x29
 have vh:=Ay (st:=N1) l_x14 c_x14 k_x14
 have PY:=Ay (st:=Vf) l_x2 c_x2 k_x2
 have vk:=Ay (st:=Lb) l_x15 c_x15 k_x15
 have PZ:=Ay (st:=Vl) l_x8 c_x8 k_x8
 have QA:Pf K "after" "after" Fe aW _:=⟨⟨_,_,_,_,_,_,_,_,_,_,rfl,l_x42,c_x42⟩⟩
 have vn:=Ay (st:=N4) l_x19 c_x19 k_x19
 have QB:Pf K "broken_ones" "broken_ones" Eu bC _:=⟨⟨_,_,_,_,_,_,_,_,_,_,rfl,l_x16,c_x16⟩⟩
 have QC:=Ay (st:=Vm) l_x9 c_x9 k_x9
 have vo:=Ay (st:=Na) l_x30 c_x30 k_x30
 have vp:=Ay (st:=Li) l_x31 c_x31 k_x31
 have vq:=Ay (st:=Ld) l_x24 c_x24 k_x24
 have QD:=Ay (st:=Vg) l_x3 c_x3 k_x3
 have vt:=Ay (st:=Ni) l_x38 c_x38 k_x38
 have QE:=Ay (st:=Ve) l_x1 c_x1 k_x1
 have vv:=Ay (st:=Ll) l_x43 c_x43 k_x43
 have vw:=Ay (st:=Nk) l_x44 c_x44 k_x44
 have vx:=Ay (st:=Lc) l_x20 c_x20 k_x20
 have vy:=Ay (st:=Lg) l_x25 c_x25 k_x25
 have vz:=Ay (st:=My) l_x10 c_x10 k_x10
 have vA:=Ay (st:=Lh) l_x26 c_x26 k_x26
 have vB:=Ay (st:=J6) l_x21 c_x21 k_x21
 have vC:=Ay (st:=Nl) l_x45 c_x45 k_x45
 have vD:=Ay (st:=Nb) l_x32 c_x32 k_x32
 have vE:=Ay (st:=La) l_x11 c_x11 k_x11
 have QF:=Ay (st:=Vj) l_x6 c_x6 k_x6
 have QG:=Ay (st:=Vd) l_x0 c_x0 k_x0
 have vF:=Ay (st:=Nd) l_x33 c_x33 k_x33
 have QH:=Ay (st:=Vk) l_x7 c_x7 k_x7
 have QI:=Ay (st:=Vi) l_x5 c_x5 k_x5
 have vG:=Ay (st:=Mz) l_x12 c_x12 k_x12
 have QJ:=Ay (st:=Vh) l_x4 c_x4 k_x4
 have vH:=Ay (st:=N7) l_x27 c_x27 k_x27
 have vI:=Ay (st:=N2) l_x17 c_x17 k_x17
 have vJ:=Ay (st:=Nj) l_x39 c_x39 k_x39
 have vK:=Ay (st:=Nf) l_x34 c_x34 k_x34
 have vL:=Ay (st:=Lj) l_x40 c_x40 k_x40
 have vM:=Ay (st:=N8) l_x28 c_x28 k_x28
 have vN:=Ay (st:=Ng) l_x35 c_x35 k_x35
 have vP:=Ay (st:=Nh) l_x36 c_x36 k_x36
 have vQ:=Ay (st:=N3) l_x18 c_x18 k_x18
 have vR:=Ay (st:=N0) l_x13 c_x13 k_x13
 have vS:=Ay (st:=Lk) l_x41 c_x41 k_x41
 have vT:=Ay (st:=N5) l_x22 c_x22 k_x22
 have QK:=Ay (st:=Fc) l_law c_law k_law
 have kE:Ah K (PySem.W.fnOf "hall_of" "hall_of" (Ag Fd) (Ac Fd) (A4 Fd) (.ref kU) nk nq nr mY kR nt) ["waits","calm"] []:=fun s us hK hl=>by
  have h4:us.length = 2:=by simpa using hl
  obtain ⟨_,_,rfl⟩ := Hk h4
  exact BindsTo.of_defaults rfl (hK _ _ t_x37) rfl rfl rfl
 have eJ:Ah K (PySem.W.fnOf "hall_of" "hall_of" (Ag Fd) (Ac Fd) (A4 Fd) (.ref kU) nk nq nr mY kR nt) ["waits","calm"] [Value.none]:=fun s us hK hl=>by
  have h4:us.length = 1:=by simpa using hl
  obtain ⟨_,rfl⟩ := Ex h4
  exact BindsTo.of_defaults rfl (hK _ _ t_x37) rfl rfl rfl
 have dY:=vf.binds (ps:=["hall"]) fun _ _ _ _ _ _ us hl=>by obtain ⟨_,rfl⟩ := Ex hl; rfl
 have gA:=vg.binds (ps:=["hall","standing"]) fun _ _ _ _ _ _ us hl=>by obtain ⟨_,_,rfl⟩ := Hk hl; rfl
 have pJ:=vh.binds (ps:=["hall","who"]) fun _ _ _ _ _ _ us hl=>by obtain ⟨_,_,rfl⟩ := Hk hl; rfl
 have wy:=PY.binds (ps:=["hall","standing","who","lost"]) fun _ _ _ _ _ _ us hl=>by obtain ⟨_,_,_,_,rfl⟩ := Pb hl; rfl
 have jX:=vk.binds (ps:=["hall","standing","who","lost"]) fun _ _ _ _ _ _ us hl=>by obtain ⟨_,_,_,_,rfl⟩ := Pb hl; rfl
 have wA:=PZ.binds (ps:=["hall","standing","lost"]) fun _ _ _ _ _ _ us hl=>by obtain ⟨_,_,_,rfl⟩ := Pa hl; rfl
 have eU:Ah K (PySem.W.fnOf "after" "after" (Ag Fe) (Ac Fe) (A4 Fe) (.ref kW) nv ny nz mZ kS nA) ["hall","standing","who","lost"] []:=fun s us hK hl=>by
  have h4:us.length = 4:=by simpa using hl
  obtain ⟨_,_,_,_,rfl⟩ := Pb h4
  exact BindsTo.of_defaults rfl (hK _ _ t_x42) rfl rfl rfl
 have dC:Ah K (PySem.W.fnOf "after" "after" (Ag Fe) (Ac Fe) (A4 Fe) (.ref kW) nv ny nz mZ kS nA) ["hall","standing","who","lost"] [Value.bool false]:=fun s us hK hl=>by
  have h4:us.length = 3:=by simpa using hl
  obtain ⟨_,_,_,rfl⟩ := Pa h4
  exact BindsTo.of_defaults rfl (hK _ _ t_x42) rfl rfl rfl
 have jZ:=vn.binds (ps:=["hall","standing","who"]) fun _ _ _ _ _ _ us hl=>by obtain ⟨_,_,_,rfl⟩ := Pa hl; rfl
 have qy:Ah K (PySem.W.fnOf "broken_ones" "broken_ones" (Ag Eu) (Ac Eu) (A4 Eu) (.ref kX) nB nC nD nj kT nF) ["hall","standing","who","lost"] []:=fun s us hK hl=>by
  have h4:us.length = 4:=by simpa using hl
  obtain ⟨_,_,_,_,rfl⟩ := Pb h4
  exact BindsTo.of_defaults rfl (hK _ _ t_x16) rfl rfl rfl
 have eV:Ah K (PySem.W.fnOf "broken_ones" "broken_ones" (Ag Eu) (Ac Eu) (A4 Eu) (.ref kX) nB nC nD nj kT nF) ["hall","standing","who","lost"] [Value.bool false]:=fun s us hK hl=>by
  have h4:us.length = 3:=by simpa using hl
  obtain ⟨_,_,_,rfl⟩ := Pa h4
  exact BindsTo.of_defaults rfl (hK _ _ t_x16) rfl rfl rfl
 have oJ:=QC.binds (ps:=["hall"]) fun _ _ _ _ _ _ us hl=>by obtain ⟨_,rfl⟩ := Ex hl; rfl
 have pN:=vo.binds (ps:=["hall"]) fun _ _ _ _ _ _ us hl=>by obtain ⟨_,rfl⟩ := Ex hl; rfl
 have pP:=vp.binds (ps:=["waits"]) fun _ _ _ _ _ _ us hl=>by obtain ⟨_,rfl⟩ := Ex hl; rfl
 have pS:=vq.binds (ps:=["hall"]) fun _ _ _ _ _ _ us hl=>by obtain ⟨_,rfl⟩ := Ex hl; rfl
 have wO:=QD.binds (ps:=["hall"]) fun _ _ _ _ _ _ us hl=>by obtain ⟨_,rfl⟩ := Ex hl; rfl
 have qc:=vt.binds (ps:=["pending"]) fun _ _ _ _ _ _ us hl=>by obtain ⟨_,rfl⟩ := Ex hl; rfl
 have wR:=QE.binds (ps:=["pending","ways","ranked"]) fun _ _ _ _ _ _ us hl=>by obtain ⟨_,_,_,rfl⟩ := Pa hl; rfl
 have jC:=vv.binds (ps:=["hall"]) fun _ _ _ _ _ _ us hl=>by obtain ⟨_,rfl⟩ := Ex hl; rfl
 have iZ:=vw.binds (ps:=["table","behind"]) fun _ _ _ _ _ _ us hl=>by obtain ⟨_,_,rfl⟩ := Hk hl; rfl
 have qi:=vx.binds (ps:=["hall","table","standing","who"]) fun _ _ _ _ _ _ us hl=>by obtain ⟨_,_,_,_,rfl⟩ := Pb hl; rfl
 have kH:=vy.binds (ps:=["hall","table","standing"]) fun _ _ _ _ _ _ us hl=>by obtain ⟨_,_,_,rfl⟩ := Pa hl; rfl
 have kC:=vz.binds (ps:=["hall","table","standing","who"]) fun _ _ _ _ _ _ us hl=>by obtain ⟨_,_,_,_,rfl⟩ := Pb hl; rfl
 have ql:=vA.binds (ps:=["word"]) fun _ _ _ _ _ _ us hl=>by obtain ⟨_,rfl⟩ := Ex hl; rfl
 have nU:=vB.binds (ps:=["words"]) fun _ _ _ _ _ _ us hl=>by obtain ⟨_,rfl⟩ := Ex hl; rfl
 have qq:=vC.binds (ps:=["word","size"]) fun _ _ _ _ _ _ us hl=>by obtain ⟨_,_,rfl⟩ := Hk hl; rfl
 have qE:=vD.binds (ps:=["row"]) fun _ _ _ _ _ _ us hl=>by obtain ⟨_,rfl⟩ := Ex hl; rfl
 have nX:=vE.binds (ps:=["numbers"]) fun _ _ _ _ _ _ us hl=>by obtain ⟨_,rfl⟩ := Ex hl; rfl
 have tQ:=QF.binds (ps:=["self"]) fun _ _ _ _ _ _ us hl=>by obtain ⟨_,rfl⟩ := Ex hl; rfl
 have x4:=QG.binds (ps:=["self","word"]) fun _ _ _ _ _ _ us hl=>by obtain ⟨_,_,rfl⟩ := Hk hl; rfl
 have qu:=vF.binds (ps:=["self","hall","standing","table"]) fun _ _ _ _ _ _ us hl=>by obtain ⟨_,_,_,_,rfl⟩ := Pb hl; rfl
 have x6:=QH.binds (ps:=["self","hall"]) fun _ _ _ _ _ _ us hl=>by obtain ⟨_,_,rfl⟩ := Hk hl; rfl
 have x9:=QI.binds (ps:=["self"]) fun _ _ _ _ _ _ us hl=>by obtain ⟨_,rfl⟩ := Ex hl; rfl
 have qB:=vG.binds (ps:=["self","who","lost"]) fun _ _ _ _ _ _ us hl=>by obtain ⟨_,_,_,rfl⟩ := Pa hl; rfl
 have xc:=QJ.binds (ps:=["self","word","number"]) fun _ _ _ _ _ _ us hl=>by obtain ⟨_,_,_,rfl⟩ := Pa hl; rfl
 have kJ:=vH.binds (ps:=["self","row"]) fun _ _ _ _ _ _ us hl=>by obtain ⟨_,_,rfl⟩ := Hk hl; rfl
 have qU:=vI.binds (ps:=["script","k"]) fun _ _ _ _ _ _ us hl=>by obtain ⟨_,_,rfl⟩ := Hk hl; rfl
 have o6:=vJ.binds (ps:=["cell"]) fun _ _ _ _ _ _ us hl=>by obtain ⟨_,rfl⟩ := Ex hl; rfl
 have nZ:=vK.binds (ps:=["number"]) fun _ _ _ _ _ _ us hl=>by obtain ⟨_,rfl⟩ := Ex hl; rfl
 have o8:=vL.binds (ps:=["hall"]) fun _ _ _ _ _ _ us hl=>by obtain ⟨_,rfl⟩ := Ex hl; rfl
 have og:=vM.binds (ps:=["hall","table"]) fun _ _ _ _ _ _ us hl=>by obtain ⟨_,_,rfl⟩ := Hk hl; rfl
 have qH:=vN.binds (ps:=["e"]) fun _ _ _ _ _ _ us hl=>by obtain ⟨_,rfl⟩ := Ex hl; rfl
 have eY:=vP.binds (ps:=["desk","row"]) fun _ _ _ _ _ _ us hl=>by obtain ⟨_,_,rfl⟩ := Hk hl; rfl
 have qW:=vQ.binds (ps:=["desk","number"]) fun _ _ _ _ _ _ us hl=>by obtain ⟨_,_,rfl⟩ := Hk hl; rfl
 have oi:=vR.binds (ps:=["number","desk","hall","table","standing"]) fun _ _ _ _ _ _ us hl=>by obtain ⟨_,_,_,_,_,rfl⟩ := mo hl; rfl
 have qK:=vS.binds (ps:=["number","left"]) fun _ _ _ _ _ _ us hl=>by obtain ⟨_,_,rfl⟩ := Hk hl; rfl
 have qY:=vT.binds (ps:=["desk","hall","spot","number"]) fun _ _ _ _ _ _ us hl=>by obtain ⟨_,_,_,_,rfl⟩ := Pb hl; rfl
 refine ⟨PySem.W.fnOf "law" "law" (Ag Fc) (Ac Fc) (A4 Fc) .none sh si sj rf nG sk,fun s v=>.of_eq rfl,fun base _ _=>?_⟩
 have kD:A9 l.prog w K mg base (Ax l.prog w) 1 _ _ ["waits","calm"] (P4 K aC aA aE aB aD aF):=d6 T PX
 have dX:A9 l.prog w K mg base (Ax l.prog w) 1 _ _ ["hall"] (Gk K):=ci T vf
 have fZ:A9 l.prog w K mg base (Ax l.prog w) 1 _ _ ["hall","standing"] (Lo K):=cr T vg
 have pI:A9 l.prog w K mg base (Ax l.prog w) 1 _ _ ["hall","who"] (S9 K):=bz T vh
 have wx:A9 l.prog w K mg base (Ax l.prog w) 2 _ _ ["hall","standing","who","lost"] (Y2 K aC aA aE aB aD aF):=ie T PY pI pJ fZ gA
 have jW:A9 l.prog w K mg base (Ax l.prog w) 3 _ _ ["hall","standing","who","lost"] (P1 K aC aA aE aB aD aF):=c0 T vk wx wy
 have wz:A9 l.prog w K mg base (Ax l.prog w) 1 _ _ ["hall","standing","lost"] (Y8 K):=im T PZ
 have eG:A9 l.prog w K mg base (Ax l.prog w) 4 _ _ ["hall","standing","who","lost"] (Ip K aC aA aE aB aD aF):=de T QA jW jX wz wA
 have jY:A9 l.prog w K mg base (Ax l.prog w) 5 _ _ ["hall","standing","who"] (P2 K):=cc T vn eG eU dC fZ gA
 have qx:A9 l.prog w K mg base (Ax l.prog w) 4 _ _ ["hall","standing","who","lost"] (Sa K aC aA aE aB aD aF):=c6 T QB jW jX
 have oH:A9 l.prog w K mg base (Ax l.prog w) 1 _ _ ["hall"] (Tu K):=ip T QC
 have pM:A9 l.prog w K mg base (Ax l.prog w) 2 _ _ ["hall"] (Sj K):=cu T vo oH oJ
 have pO:A9 l.prog w K mg base (Ax l.prog w) 1 _ _ ["waits"] (Sk K):=cw T vp
 have pR:A9 l.prog w K mg base (Ax l.prog w) 3 _ _ ["hall"] (Sg K aC aA aE aB aD aF):=cj T vq pM pN pO pP oH oJ
 have wN:A9 l.prog w K mg base (Ax l.prog w) 6 _ _ ["hall"] (Y3 K aC aA aE aB aD aF):=ig T QD pR pS jY jZ
 have qb:A9 l.prog w K mg base (Ax l.prog w) 1 _ _ ["pending"] (Sr K):=d7 T vt
 have wQ:A9 l.prog w K mg base (Ax l.prog w) 1 _ _ ["pending","ways","ranked"] (Y1 K):=ib T QE
 have jB:A9 l.prog w K mg base (Ax l.prog w) 7 _ _ ["hall"] (P5 K aC aA aE aB aD aF):=df T vv wN wO qb qc wQ wR
 have iY:A9 l.prog w K mg base (Ax l.prog w) 1 _ _ ["table","behind"] (P6 K):=dh T vw
 have qh:A9 l.prog w K mg base (Ax l.prog w) 6 _ _ ["hall","table","standing","who"] (Sd K):=ce T vx iY iZ jY jZ
 have kG:A9 l.prog w K mg base (Ax l.prog w) 7 _ _ ["hall","table","standing"] (P3 K):=ck T vy qh qi
 have kB:A9 l.prog w K mg base (Ax l.prog w) 5 _ _ ["hall","table","standing","who"] (P0 K aC aA aE aB aD aF):=br T vz iY iZ eG eU dC fZ gA
 have qk:A9 l.prog w K mg base (Ax l.prog w) 1 _ _ ["word"] (Sh K):=cn T vA
 have nS:A9 l.prog w K mg base (Ax l.prog w) 2 _ _ ["words"] (Se K aC aA aE aB aD aF):=cf T vB qk ql
 have qp:A9 l.prog w K mg base (Ax l.prog w) 1 _ _ ["word","size"] (Sw K):=di T vC
 have qD:A9 l.prog w K mg base (Ax l.prog w) 3 _ _ ["row"] (Sl K aC aA aE aB aD aF):=cx T vD nS nU qp qq
 have nW:A9 l.prog w K mg base (Ax l.prog w) 1 _ _ ["numbers"] (S6 K):=bu T vE
 have tP:A9 l.prog w K mg base (Ax l.prog w) 1 _ _ ["self"] (Y6 K aC aA aE aB aD aF):=ik T QF
 have x3:A9 l.prog w K mg base (Ax l.prog w) 1 _ _ ["self","word"] (Y0 K aC aA aE aB aD aF):=ia T QG
 have qt:A9 l.prog w K mg base (Ax l.prog w) 1 _ _ ["self","hall","standing","table"] (Sm K aC aA aE aB aD aF):=cy T vF
 have x5:A9 l.prog w K mg base (Ax l.prog w) 8 _ _ ["self","hall"] (Y7 K aC aA aE aB aD aF):=il T QH jB jC qt qu dX dY
 have x8:A9 l.prog w K mg base (Ax l.prog w) 1 _ _ ["self"] (Y5 K aC aA aE aB aD aF):=ij T QI
 have qA:A9 l.prog w K mg base (Ax l.prog w) 5 _ _ ["self","who","lost"] (S7 K aC aA aE aB aD aF):=bv T vG qx qy eV dX dY nW nX eG eU dC
 have xb:A9 l.prog w K mg base (Ax l.prog w) 6 _ _ ["self","word","number"] (Y4 K aC aA aE aB aD aF):=ii T QJ kB kC qA qB
 have kI:A9 l.prog w K mg base (Ax l.prog w) 9 _ _ ["self","row"] (Im K aC aA aE aB aD aF):=cp T vH qD qE x3 x4 x5 x6 kD kE eJ kG kH x8 x9 xb xc
 have qT:A9 l.prog w K mg base (Ax l.prog w) 1 _ _ ["script","k"] (Sb K):=c8 T vI
 have o4:A9 l.prog w K mg base (Ax l.prog w) 1 _ _ ["cell"] (Ss K):=d8 T vJ
 have nY:A9 l.prog w K mg base (Ax l.prog w) 2 _ _ ["number"] (Sn K):=cz T vK kD kE eJ
 have o7:A9 l.prog w K mg base (Ax l.prog w) 1 _ _ ["hall"] (Su K):=d9 T vL
 have o9:A9 l.prog w K mg base (Ax l.prog w) 2 _ _ ["hall","table"] (Si K):=cq T vM dX dY
 have qG:A9 l.prog w K mg base (Ax l.prog w) 1 _ _ ["e"] (So K aC aA aE aB aD aF):=d0 T vN
 have eX:A9 l.prog w K mg base (Ax l.prog w) 10 _ _ ["desk","row"] (Lp K aC aA aE aB aD aF):=d4 T vP kI kJ qG qH
 have qV:A9 l.prog w K mg base (Ax l.prog w) 11 _ _ ["desk","number"] (Sc K aC aA aE aB aD aF):=c9 T vQ eX eY
 have oh:A9 l.prog w K mg base (Ax l.prog w) 11 _ _ ["number","desk","hall","table","standing"] (S8 K aC aA aE aB aD aF):=bw T vR eX eY kG kH kB kC
 have qJ:A9 l.prog w K mg base (Ax l.prog w) 1 _ _ ["number","left"] (Sv K):=dc T vS
 have qX:A9 l.prog w K mg base (Ax l.prog w) 10 _ _ ["desk","hall","spot","number"] (Sf K aC aA aE aB aD aF):=cg T vT qJ qK kI kJ eG eU dC dX dY
 exact bq T QK tP tQ nY nZ o4 o6 qT qU jB jC dX dY eX eY o7 o8 o9 og oh oi qV qW qX qY
theorem walk {l : PySem.W.OpenLaw} {q : Program} {loose : List Str} {XP : (Str -> Option Value) -> Heap -> Prop} {YP : World -> Heap -> Prop} {d : DefRec} {K : Params -> PySem.W.Frag} (hn : l.most = some 63) (TQ : d.params.defaults = [])
  (hY:∀ (w:World) (h:Heap),YP w h -> (K w.params).In h)
  (F:∀ (w:World) (mg:Str -> Option Value) (fa:Addr) (h:Heap),(K w.params).In h -> h.Ns mainGlobals mg -> mg d.name = some (.ref fa) ->
   ∃ fd:FuncData,(∀ (s:Shared) (u:Value),BindsTo s fd ⟨[u],[]⟩ [("script",u)]) /\ ∀ base:Heap,(K w.params).In base -> base.Ns mainGlobals mg -> A9 l.prog w (K w.params) mg base (Ax l.prog w) 12 fa fd ["script"] (Oz (K w.params))) :
  PySem.W.WalkO q loose XP YP l.row.toRowW d [] (fun f vs=>PySem.call f vs) :=
 L2.p8 (n:=63) (k:=12) (x := "script") (CX:=fun w=>Ax l.prog w) (sp:=fun w=>Oz (K w.params)) hn (by decide) TQ ⟨rfl,by decide,by decide⟩ hY F (fun _ _ a ns hl hb _ hS=>⟨a,ns,rfl,hS,hl,hb,fun _=>rfl⟩) fun _ _ _ _ _ ⟨_,_,_,_,_,_,_,_,q⟩=>q
end Law
namespace PySem.W.Fast
theorem tw5320626115727612411:True:=trivial
theorem tw7942274764737197352:True:=trivial
theorem tw5125526608774135838:True:=trivial
theorem tw278554578453994088:True:=trivial
theorem tw10479703604250829229:True:=trivial
theorem tw12456699163491996016:True:=trivial
theorem tw13099149745417788721:True:=trivial
theorem tw3947599296399043282:True:=trivial
theorem tw7817683786521113299:True:=trivial
theorem tw17795324319963634427:True:=trivial
theorem tw6206972348909379330:True:=trivial
theorem tw6673126612761480882:True:=trivial
theorem tw6738574053190013267:True:=trivial
theorem tw4289862548890723362:True:=trivial
theorem tw9506584493661479992:True:=trivial
theorem tw10124460070205735149:True:=trivial
theorem tw14362448042763969169:True:=trivial
theorem tw7162862277010906484:True:=trivial
theorem tw8747903981483817825:True:=trivial
theorem tw6645340480507476130:True:=trivial
theorem tw7922594022688570650:True:=trivial
theorem tw1837950145618278579:True:=trivial
theorem tw2283961989640659517:True:=trivial
theorem tw5975309907894657234:True:=trivial
theorem tw15879560652066243248:True:=trivial
theorem tw18394235024159232134:True:=trivial
theorem tw15182852382965392604:True:=trivial
theorem tw18341847028177318340:True:=trivial
theorem tw9012508243362908140:True:=trivial
theorem tw16211851917329888982:True:=trivial
theorem tw6740381048628222438:True:=trivial
theorem tw16474654325464179751:True:=trivial
theorem tw8817643851372565316:True:=trivial
theorem tw12290502399463796600:True:=trivial
theorem tw2605988489725991764:True:=trivial
theorem tw9867148196276019278:True:=trivial
theorem tw17771101652551678969:True:=trivial
theorem tw18392439947013127879:True:=trivial
theorem tw17896334985716308023:True:=trivial
theorem tw825143432764517957:True:=trivial
theorem tw10779725807636236238:True:=trivial
theorem tw8089664520739257206:True:=trivial
theorem tw5931714171117673808:True:=trivial
theorem tw1162889493283331055:True:=trivial
theorem tw2141752729065831966:True:=trivial
theorem tw14961236356210945240:True:=trivial
theorem tw12812827172112171547:True:=trivial
theorem tw12211359119715516374:True:=trivial
theorem tw11894698917400446578:True:=trivial
theorem tw13197773933586717197:True:=trivial
theorem tw16209000129796021429:True:=trivial
theorem tw723979496490072089:True:=trivial
theorem tw2936963523187627754:True:=trivial
theorem tw8385752845639058901:True:=trivial
theorem tw11781209100385057986:True:=trivial
theorem tw6838444524835742521:True:=trivial
theorem tw1887047776224547329:True:=trivial
theorem tw964558927738580490:True:=trivial
theorem tw14602770369797601521:True:=trivial
theorem tw13752201428562980031:True:=trivial
theorem tw10694944254689365419:True:=trivial
theorem tw11904363163974881509:True:=trivial
theorem tw17747636463279988576:True:=trivial
theorem tw2140127075754865096:True:=trivial
theorem tw9045062223515543679:True:=trivial
theorem tw14872848342654519441:True:=trivial
theorem tw1104155922047367050:True:=trivial
theorem tw14640660561014736032:True:=trivial
theorem tw3315781305627300804:True:=trivial
theorem tw1905615602686470999:True:=trivial
theorem tw5377457047342630282:True:=trivial
theorem tw2635164772669691407:True:=trivial
theorem tw1909761233263076538:True:=trivial
theorem tw7827220461851342371:True:=trivial
theorem tw2676616381017787419:True:=trivial
theorem tw18220675294148853373:True:=trivial
theorem tw8043700826233278095:True:=trivial
theorem tw8921882743523855611:True:=trivial
theorem tw3458880006881798899:True:=trivial
theorem tw2071432565174270272:True:=trivial
theorem tw7850244007677186024:True:=trivial
theorem tw7129094229785716714:True:=trivial
theorem tw1815739601891354508:True:=trivial
theorem tw13689459053505038947:True:=trivial
theorem tw11635034987735063130:True:=trivial
theorem tw15724318338572095437:True:=trivial
theorem tw9143803516594953481:True:=trivial
theorem tw4643216455984584742:True:=trivial
theorem tw10469826650611589430:True:=trivial
theorem tw8892658848895516716:True:=trivial
theorem tw141275278508961343:True:=trivial
theorem tw482542059848409301:True:=trivial
theorem tw159322943182698540:True:=trivial
theorem tw112485631912562393:True:=trivial
theorem tw3113330294970635146:True:=trivial
theorem tw2547636751670674088:True:=trivial
theorem tw13292639778660743623:True:=trivial
theorem tw17935495480277542410:True:=trivial
theorem tw3066765750006089300:True:=trivial
theorem tw9273074246989280520:True:=trivial
theorem tw14071130779698592160:True:=trivial
theorem tw713290781164608642:True:=trivial
theorem tw7405261610898872308:True:=trivial
theorem tw10255712277613547286:True:=trivial
theorem tw7938883742939036369:True:=trivial
theorem tw16705745640811154034:True:=trivial
theorem tw13841268323993759844:True:=trivial
theorem tw10595877511717373893:True:=trivial
theorem tw16721707283451648542:True:=trivial
theorem tw4162192786088183240:True:=trivial
theorem tw3329165110409843534:True:=trivial
theorem tw3344961483351194213:True:=trivial
theorem tw10688028116678972526:True:=trivial
theorem tw11999080936026640701:True:=trivial
theorem tw9656163611971151020:True:=trivial
theorem tw18331144277005630363:True:=trivial
theorem tw5123605894417555208:True:=trivial
theorem tw11732285943163159899:True:=trivial
theorem tw11559715114838053113:True:=trivial
theorem tw13621039572267496847:True:=trivial
theorem tw9653021359624832951:True:=trivial
theorem tw3142742674080302769:True:=trivial
theorem tw12666421248468483124:True:=trivial
theorem tw14489066466668071662:True:=trivial
theorem tw3902307598728324177:True:=trivial
theorem tw17477261805129388840:True:=trivial
theorem tw5688200709476513997:True:=trivial
theorem tw3850555112806641813:True:=trivial
theorem tw10948743060414803234:True:=trivial
theorem tw1200141594088189180:True:=trivial
theorem tw5901973499210847435:True:=trivial
theorem tw17134417129791898786:True:=trivial
theorem tw6344879688646600403:True:=trivial
theorem tw7782867470266538315:True:=trivial
theorem tw4532498915057796158:True:=trivial
theorem tw17279120045596514960:True:=trivial
theorem tw14478015905512700313:True:=trivial
theorem tw8814131839128665975:True:=trivial
theorem tw11812087295062167304:True:=trivial
theorem tw17461474337281309516:True:=trivial
theorem tw3039458769975329474:True:=trivial
theorem tw12443866327605796487:True:=trivial
theorem tw8708919670437601960:True:=trivial
theorem tw5101039723166543756:True:=trivial
theorem tw17797638733257574872:True:=trivial
theorem tw18187581175965079672:True:=trivial
theorem tw14254610747173360975:True:=trivial
theorem tw12082972076995245654:True:=trivial
theorem tw88534598613497277:True:=trivial
theorem tw56482907455444961:True:=trivial
theorem tw4685697971486778248:True:=trivial
theorem tw795726989141331635:True:=trivial
theorem tw14933756136938455474:True:=trivial
theorem tw5887890544255929712:True:=trivial
theorem tw4004822903839925777:True:=trivial
theorem tw9500863179914470295:True:=trivial
theorem tw1748259611658183690:True:=trivial
theorem tw2871593456424410893:True:=trivial
theorem tw4979017285521156143:True:=trivial
theorem tw12264998870215442677:True:=trivial
theorem tw944863881297713166:True:=trivial
theorem tw12522243388417217690:True:=trivial
theorem tw7195116877436771214:True:=trivial
theorem tw4034348205077129436:True:=trivial
theorem tw4974779959140088330:True:=trivial
theorem tw13029341077675873515:True:=trivial
theorem tw10569405183353417579:True:=trivial
theorem tw7664849858253376679:True:=trivial
theorem tw6324617917110500763:True:=trivial
theorem tw2599961142078755564:True:=trivial
theorem tw2374184989757882332:True:=trivial
theorem tw3592790236527321366:True:=trivial
theorem tw5512083955040624375:True:=trivial
end PySem.W.Fast
open PySem PySem.W PyProof.Rows
set_option maxRecDepth 100000 in
set_option maxHeartbeats 0 in
theorem PySem.Challenge.cw_roundcall_k93_best_answer_rank_holds : PySem.Challenge.rw_roundcall_k93_best_answer_rank.Holds := by
 w_on; o_law; k_head; (case hw=>w_witness2)
 k_fill
 refine Law.walk (l:=PySem.Challenge.rw_roundcall_k93_best_answer_rank) rfl rfl (fun w h Y=>PySem.W.km_in_of Y) ?F
 case F =>
  intro w mg fa h KX G hmg
  refine' Law.all_mk KX G hmg ?a_x37 ?l_x37 ?c_x37 ?k_x37 ?t_x37 ?a_x23 ?l_x23 ?c_x23 ?k_x23 ?a_x29 ?l_x29 ?c_x29 ?k_x29 ?a_x14 ?l_x14 ?c_x14 ?k_x14 ?a_x2 ?l_x2 ?c_x2 ?k_x2 ?a_x15 ?l_x15 ?c_x15 ?k_x15 ?a_x8 ?l_x8 ?c_x8 ?k_x8 ?a_x42 ?l_x42 ?c_x42 ?k_x42 ?t_x42 ?a_x19 ?l_x19 ?c_x19 ?k_x19 ?a_x16 ?l_x16 ?c_x16 ?k_x16 ?t_x16 ?a_x9 ?l_x9 ?c_x9 ?k_x9 ?a_x30 ?l_x30 ?c_x30 ?k_x30 ?a_x31 ?l_x31 ?c_x31 ?k_x31 ?a_x24 ?l_x24 ?c_x24 ?k_x24 ?a_x3 ?l_x3 ?c_x3 ?k_x3 ?a_x38 ?l_x38 ?c_x38 ?k_x38 ?a_x1 ?l_x1 ?c_x1 ?k_x1 ?a_x43 ?l_x43 ?c_x43 ?k_x43 ?a_x44 ?l_x44 ?c_x44 ?k_x44 ?a_x20 ?l_x20 ?c_x20 ?k_x20 ?a_x25 ?l_x25 ?c_x25 ?k_x25 ?a_x10 ?l_x10 ?c_x10 ?k_x10 ?a_x26 ?l_x26 ?c_x26 ?k_x26 ?a_x21 ?l_x21 ?c_x21 ?k_x21 ?a_x45 ?l_x45 ?c_x45 ?k_x45 ?a_x32 ?l_x32 ?c_x32 ?k_x32 ?a_x11 ?l_x11 ?c_x11 ?k_x11 ?i_x6 ?l_x6 ?c_x6 ?k_x6 ?i_x0 ?l_x0 ?c_x0 ?k_x0 ?i_x33 ?l_x33 ?c_x33 ?k_x33 ?i_x7 ?l_x7 ?c_x7 ?k_x7 ?i_x5 ?l_x5 ?c_x5 ?k_x5 ?i_x12 ?l_x12 ?c_x12 ?k_x12 ?i_x4 ?l_x4 ?c_x4 ?k_x4 ?i_x27 ?l_x27 ?c_x27 ?k_x27 ?a_x17 ?l_x17 ?c_x17 ?k_x17 ?a_x39 ?l_x39 ?c_x39 ?k_x39 ?a_x34 ?l_x34 ?c_x34 ?k_x34 ?a_x40 ?l_x40 ?c_x40 ?k_x40 ?a_x28 ?l_x28 ?c_x28 ?k_x28 ?a_x35 ?l_x35 ?c_x35 ?k_x35 ?a_x36 ?l_x36 ?c_x36 ?k_x36 ?a_x18 ?l_x18 ?c_x18 ?k_x18 ?a_x13 ?l_x13 ?c_x13 ?k_x13 ?a_x41 ?l_x41 ?c_x41 ?k_x41 ?a_x22 ?l_x22 ?c_x22 ?k_x22 ?a_law ?l_law ?c_law ?k_law ?pg_Desk ?hd_Desk ?po_Desk ?sa_Desk ?mm_Desk ?kc_Desk ?fm_x6 ?fm_x27 ?fm_x4 ?fm_x0 ?fm_x33 ?fm_x7 ?fm_x5 ?fm_x12 ?nf_Desk_hall ?nf_Desk_standing ?nf_Desk_table ?nf_Desk_wheel ?y_FIGURES ?y_ROWS_ALONE ?q_ROWS_ALONE ?y_ROWS_WITH_ONE ?q_ROWS_WITH_ONE ?y_ROWS_WITH_SOME ?q_ROWS_WITH_SOME ?y_MOST_LISTENERS ?y_MOST_STANDINGS ?y_MOST_FIGURES ?z_sum ?z_sorted ?z_all ?z_zip ?z_any ?z_range ?z_len ?z_min ?z_max ?z_set ?z_tuple ?z_enumerate ?z_int ?z_isinstance ?z_str ?z_ValueError ?ac_NoHall ?ac_NoListener ?ac_NoLoss ?ac_TooMany ?ac_NoRow ?ac_RoundError ?ac_NoWheel ?ac_NoChain ?ac_TooMuch ?ac_NoPart ?ac_Unsafe ?ac_NoStand ?ac_Desk ?e_NoHall ?e_NoListener ?e_NoLoss ?e_TooMany ?e_NoRow ?e_RoundError ?b_RoundError ?xgs ?xtk ?xga_NoHall ?xgt_NoHall ?xcl_NoHall ?xob_NoHall ?xbe_NoHall ?u_NoHall_RoundError ?j_NoHall_NoHall ?j_NoHall_NoListener ?j_NoHall_TooMany ?j_NoHall_NoRow ?j_NoHall_NoLoss ?j_NoHall_NoWheel ?j_NoHall_NoChain ?j_NoHall_TooMuch ?j_NoHall_NoPart ?j_NoHall_Unsafe ?j_NoHall_NoStand ?j_NoHall_ValueError ?xga_NoListener ?xgt_NoListener ?xcl_NoListener ?xob_NoListener ?xbe_NoListener ?u_NoListener_RoundError ?j_NoListener_NoHall ?j_NoListener_NoListener ?j_NoListener_TooMany ?j_NoListener_NoRow ?j_NoListener_NoLoss ?j_NoListener_NoWheel ?j_NoListener_NoChain ?j_NoListener_TooMuch ?j_NoListener_NoPart ?j_NoListener_Unsafe ?j_NoListener_NoStand ?j_NoListener_ValueError ?xga_TooMany ?xgt_TooMany ?xcl_TooMany ?xob_TooMany ?xbe_TooMany ?u_TooMany_RoundError ?j_TooMany_NoHall ?j_TooMany_NoListener ?j_TooMany_TooMany ?j_TooMany_NoRow ?j_TooMany_NoLoss ?j_TooMany_NoWheel ?j_TooMany_NoChain ?j_TooMany_TooMuch ?j_TooMany_NoPart ?j_TooMany_Unsafe ?j_TooMany_NoStand ?j_TooMany_ValueError ?xga_NoRow ?xgt_NoRow ?xcl_NoRow ?xob_NoRow ?xbe_NoRow ?u_NoRow_RoundError ?j_NoRow_NoHall ?j_NoRow_NoListener ?j_NoRow_TooMany ?j_NoRow_NoRow ?j_NoRow_NoLoss ?j_NoRow_NoWheel ?j_NoRow_NoChain ?j_NoRow_TooMuch ?j_NoRow_NoPart ?j_NoRow_Unsafe ?j_NoRow_NoStand ?j_NoRow_ValueError
  (case ac_Desk=>k_is)
  (case fm_x6=>k_is)
  (case fm_x27=>k_is)
  (case fm_x4=>k_is)
  (case fm_x0=>k_is)
  (case fm_x33=>k_is)
  (case fm_x7=>k_is)
  (case fm_x5=>k_is)
  (case fm_x12=>k_is)
  (case a_x37=>k_is)
  (case l_x37=>k_is)
  (case c_x37=>k_is)
  (case k_x37=>k_is)
  (case t_x37=>k_is)
  (case a_x23=>k_is)
  (case l_x23=>k_is)
  (case c_x23=>k_is)
  (case k_x23=>k_is)
  (case a_x29=>k_is)
  (case l_x29=>k_is)
  (case c_x29=>k_is)
  (case k_x29=>k_is)
  (case a_x14=>k_is)
  (case l_x14=>k_is)
  (case c_x14=>k_is)
  (case k_x14=>k_is)
  (case a_x2=>k_is)
  (case l_x2=>k_is)
  (case c_x2=>k_is)
  (case k_x2=>k_is)
  (case a_x15=>k_is)
  (case l_x15=>k_is)
  (case c_x15=>k_is)
  (case k_x15=>k_is)
  (case a_x8=>k_is)
  (case l_x8=>k_is)
  (case c_x8=>k_is)
  (case k_x8=>k_is)
  (case a_x42=>k_is)
  (case l_x42=>k_is)
  (case c_x42=>k_is)
  (case k_x42=>k_is)
  (case t_x42=>k_is)
  (case a_x19=>k_is)
  (case l_x19=>k_is)
  (case c_x19=>k_is)
  (case k_x19=>k_is)
  (case a_x16=>k_is)
  (case l_x16=>k_is)
  (case c_x16=>k_is)
  (case k_x16=>k_is)
  (case t_x16=>k_is)
  (case a_x9=>k_is)
  (case l_x9=>k_is)
  (case c_x9=>k_is)
  (case k_x9=>k_is)
  (case a_x30=>k_is)
  (case l_x30=>k_is)
  (case c_x30=>k_is)
  (case k_x30=>k_is)
  (case a_x31=>k_is)
  (case l_x31=>k_is)
  (case c_x31=>k_is)
  (case k_x31=>k_is)
  (case a_x24=>k_is)
  (case l_x24=>k_is)
  (case c_x24=>k_is)
  (case k_x24=>k_is)
  (case a_x3=>k_is)
  (case l_x3=>k_is)
  (case c_x3=>k_is)
  (case k_x3=>k_is)
  (case a_x38=>k_is)
  (case l_x38=>k_is)
  (case c_x38=>k_is)
  (case k_x38=>k_is)
  (case a_x1=>k_is)
  (case l_x1=>k_is)
  (case c_x1=>k_is)
  (case k_x1=>k_is)
  (case a_x43=>k_is)
  (case l_x43=>k_is)
  (case c_x43=>k_is)
  (case k_x43=>k_is)
  (case a_x44=>k_is)
  (case l_x44=>k_is)
  (case c_x44=>k_is)
  (case k_x44=>k_is)
  (case a_x20=>k_is)
  (case l_x20=>k_is)
  (case c_x20=>k_is)
  (case k_x20=>k_is)
  (case a_x25=>k_is)
  (case l_x25=>k_is)
  (case c_x25=>k_is)
  (case k_x25=>k_is)
  (case a_x10=>k_is)
  (case l_x10=>k_is)
  (case c_x10=>k_is)
  (case k_x10=>k_is)
  (case a_x26=>k_is)
  (case l_x26=>k_is)
  (case c_x26=>k_is)
  (case k_x26=>k_is)
  (case a_x21=>k_is)
  (case l_x21=>k_is)
  (case c_x21=>k_is)
  (case k_x21=>k_is)
  (case a_x45=>k_is)
  (case l_x45=>k_is)
  (case c_x45=>k_is)
  (case k_x45=>k_is)
  (case a_x32=>k_is)
  (case l_x32=>k_is)
  (case c_x32=>k_is)
  (case k_x32=>k_is)
  (case a_x11=>k_is)
  (case l_x11=>k_is)
  (case c_x11=>k_is)
  (case k_x11=>k_is)
  (case i_x6=>k_is)
  (case l_x6=>k_is)
  (case c_x6=>k_is)
  (case k_x6=>k_is)
  (case i_x0=>k_is)
  (case l_x0=>k_is)
  (case c_x0=>k_is)
  (case k_x0=>k_is)
  (case i_x33=>k_is)
  (case l_x33=>k_is)
  (case c_x33=>k_is)
  (case k_x33=>k_is)
  (case i_x7=>k_is)
  (case l_x7=>k_is)
  (case c_x7=>k_is)
  (case k_x7=>k_is)
  (case i_x5=>k_is)
  (case l_x5=>k_is)
  (case c_x5=>k_is)
  (case k_x5=>k_is)
  (case i_x12=>k_is)
  (case l_x12=>k_is)
  (case c_x12=>k_is)
  (case k_x12=>k_is)
  (case i_x4=>k_is)
  (case l_x4=>k_is)
  (case c_x4=>k_is)
  (case k_x4=>k_is)
  (case i_x27=>k_is)
  (case l_x27=>k_is)
  (case c_x27=>k_is)
  (case k_x27=>k_is)
  (case a_x17=>k_is)
  (case l_x17=>k_is)
  (case c_x17=>k_is)
  (case k_x17=>k_is)
  (case a_x39=>k_is)
  (case l_x39=>k_is)
  (case c_x39=>k_is)
  (case k_x39=>k_is)
  (case a_x34=>k_is)
  (case l_x34=>k_is)
  (case c_x34=>k_is)
  (case k_x34=>k_is)
  (case a_x40=>k_is)
  (case l_x40=>k_is)
  (case c_x40=>k_is)
  (case k_x40=>k_is)
  (case a_x28=>k_is)
  (case l_x28=>k_is)
  (case c_x28=>k_is)
  (case k_x28=>k_is)
  (case a_x35=>k_is)
  (case l_x35=>k_is)
  (case c_x35=>k_is)
  (case k_x35=>k_is)
  (case a_x36=>k_is)
  (case l_x36=>k_is)
  (case c_x36=>k_is)
  (case k_x36=>k_is)
  (case a_x18=>k_is)
  (case l_x18=>k_is)
  (case c_x18=>k_is)
  (case k_x18=>k_is)
  (case a_x13=>k_is)
  (case l_x13=>k_is)
  (case c_x13=>k_is)
  (case k_x13=>k_is)
  (case a_x41=>k_is)
  (case l_x41=>k_is)
  (case c_x41=>k_is)
  (case k_x41=>k_is)
  (case a_x22=>k_is)
  (case l_x22=>k_is)
  (case c_x22=>k_is)
  (case k_x22=>k_is)
  (case a_law=>k_is)
  (case l_law=>k_is)
  (case c_law=>k_is)
  (case k_law=>k_is)
  (case pg_Desk=>k_is)
  (case hd_Desk=>k_is)
  (case po_Desk=>k_is)
  (case sa_Desk=>k_is)
  (case mm_Desk=>k_is)
  (case kc_Desk=>k_is)
  (case nf_Desk_hall=>k_is)
  (case nf_Desk_standing=>k_is)
  (case nf_Desk_table=>k_is)
  (case nf_Desk_wheel=>k_is)
  (case y_FIGURES=>k_is)
  (case y_ROWS_ALONE=>k_is)
  (case q_ROWS_ALONE=>k_is)
  (case y_ROWS_WITH_ONE=>k_is)
  (case q_ROWS_WITH_ONE=>k_is)
  (case y_ROWS_WITH_SOME=>k_is)
  (case q_ROWS_WITH_SOME=>k_is)
  (case y_MOST_LISTENERS=>k_is)
  (case y_MOST_STANDINGS=>k_is)
  (case y_MOST_FIGURES=>k_is)
  (case z_sum=>k_is)
  (case z_sorted=>k_is)
  (case z_all=>k_is)
  (case z_zip=>k_is)
  (case z_any=>k_is)
  (case z_range=>k_is)
  (case z_len=>k_is)
  (case z_min=>k_is)
  (case z_max=>k_is)
  (case z_set=>k_is)
  (case z_tuple=>k_is)
  (case z_enumerate=>k_is)
  (case z_int=>k_is)
  (case z_isinstance=>k_is)
  (case z_str=>k_is)
  (case z_ValueError=>k_is)
  (case ac_NoHall=>k_is)
  (case ac_NoListener=>k_is)
  (case ac_NoLoss=>k_is)
  (case ac_TooMany=>k_is)
  (case ac_NoRow=>k_is)
  (case ac_RoundError=>k_is)
  (case ac_NoWheel=>k_is)
  (case ac_NoChain=>k_is)
  (case ac_TooMuch=>k_is)
  (case ac_NoPart=>k_is)
  (case ac_Unsafe=>k_is)
  (case ac_NoStand=>k_is)
  (case e_NoHall=>k_exc)
  (case e_NoListener=>k_exc)
  (case e_NoLoss=>k_exc)
  (case e_TooMany=>k_exc)
  (case e_NoRow=>k_exc)
  (case e_RoundError=>k_exc)
  (case b_RoundError=>k_is)
  (case xgs=>k_is)
  (case xtk=>k_is)
  (case xga_NoHall=>k_is)
  (case xgt_NoHall=>k_is)
  (case xcl_NoHall=>k_is)
  (case xob_NoHall=>k_is)
  (case xbe_NoHall=>k_is)
  (case u_NoHall_RoundError=>k_is)
  (case j_NoHall_NoHall=>kit_is)
  (case j_NoHall_NoListener=>kit_is)
  (case j_NoHall_TooMany=>kit_is)
  (case j_NoHall_NoRow=>kit_is)
  (case j_NoHall_NoLoss=>kit_is)
  (case j_NoHall_NoWheel=>kit_is)
  (case j_NoHall_NoChain=>kit_is)
  (case j_NoHall_TooMuch=>kit_is)
  (case j_NoHall_NoPart=>kit_is)
  (case j_NoHall_Unsafe=>kit_is)
  (case j_NoHall_NoStand=>kit_is)
  (case j_NoHall_ValueError=>kit_is)
  (case xga_NoListener=>k_is)
  (case xgt_NoListener=>k_is)
  (case xcl_NoListener=>k_is)
  (case xob_NoListener=>k_is)
  (case xbe_NoListener=>k_is)
  (case u_NoListener_RoundError=>k_is)
  (case j_NoListener_NoHall=>kit_is)
  (case j_NoListener_NoListener=>kit_is)
  (case j_NoListener_TooMany=>kit_is)
  (case j_NoListener_NoRow=>kit_is)
  (case j_NoListener_NoLoss=>kit_is)
  (case j_NoListener_NoWheel=>kit_is)
  (case j_NoListener_NoChain=>kit_is)
  (case j_NoListener_TooMuch=>kit_is)
  (case j_NoListener_NoPart=>kit_is)
  (case j_NoListener_Unsafe=>kit_is)
  (case j_NoListener_NoStand=>kit_is)
  (case j_NoListener_ValueError=>kit_is)
  (case xga_TooMany=>k_is)
  (case xgt_TooMany=>k_is)
  (case xcl_TooMany=>k_is)
  (case xob_TooMany=>k_is)
  (case xbe_TooMany=>k_is)
  (case u_TooMany_RoundError=>k_is)
  (case j_TooMany_NoHall=>kit_is)
  (case j_TooMany_NoListener=>kit_is)
  (case j_TooMany_TooMany=>kit_is)
  (case j_TooMany_NoRow=>kit_is)
  (case j_TooMany_NoLoss=>kit_is)
  (case j_TooMany_NoWheel=>kit_is)
  (case j_TooMany_NoChain=>kit_is)
  (case j_TooMany_TooMuch=>kit_is)
  (case j_TooMany_NoPart=>kit_is)
  (case j_TooMany_Unsafe=>kit_is)
  (case j_TooMany_NoStand=>kit_is)
  (case j_TooMany_ValueError=>kit_is)
  (case xga_NoRow=>k_is)
  (case xgt_NoRow=>k_is)
  (case xcl_NoRow=>k_is)
  (case xob_NoRow=>k_is)
  (case xbe_NoRow=>k_is)
  (case u_NoRow_RoundError=>k_is)
  (case j_NoRow_NoHall=>kit_is)
  (case j_NoRow_NoListener=>kit_is)
  (case j_NoRow_TooMany=>kit_is)
  (case j_NoRow_NoRow=>kit_is)
  (case j_NoRow_NoLoss=>kit_is)
  (case j_NoRow_NoWheel=>kit_is)
  (case j_NoRow_NoChain=>kit_is)
  (case j_NoRow_TooMuch=>kit_is)
  (case j_NoRow_NoPart=>kit_is)
  (case j_NoRow_Unsafe=>kit_is)
  (case j_NoRow_NoStand=>kit_is)
  (case j_NoRow_ValueError=>kit_is)

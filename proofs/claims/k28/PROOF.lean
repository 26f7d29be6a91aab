import PyProof.Rows.All
import Wide.All
import OpenK.AllK
import Wide.FinOn
import Lean
import PyProof.EqAt
import PyProof.EqKinds
import PyProof.TupleCall
import PyProof.NeKinds
import PyProof.ZipIter
import KE.KIntText
import PyProof.StrLawsIn
import PyProof.DictItems
import PyProof.Draws
import PyProof.EnumStmt
import PyProof.Rows.SortShellK
import PyProof.Rows.CallKwBuiltin
import PyProof.Rows.TupIn
import PyProof.NsDelKeeps
import PyProof.StrWalks
import PyProof.StrCalls6
import PyProof.MeetsStr3
import PyProof.DictIter
import PyProof.WalkLemmas
import PyProof.DictWalks
import PyProof.MinMaxWalk
import KE.KDictOf
import PyProof.WalksMore
import PySem.Challenge.RW_ledtowish_k28_whole_rows_by_their_forms
open PySem renaming wpAny_bind->Aa,wpAny_pure->Ab,Shared->Ad,wpAny->Ar,Program->At,mainGlobals->Az,model->AB,Paired->AH,wpAny_call_entry->AN,wpAny_mono->AT,World->AV,starEach->AW,Around->AY,sizeLine_eq->Bb,wpAny_newObj_type->Bd,wpAny_callSpecial?_slot->Bl,mem_of_lookup->Bn,Spec->Bq,FuncData->Bu,wpAny_holding->Bw,foldedSetIterable->BE,wpAny_standAt->BG,tupleKind->BI,sysModules->BM,wpAny_askSetting->BO,codeAny_builtin->BS,bootBuiltins->BW,wpAny_Call_Name_kw->Cb,intKind->Ch,wpAny_field->Ci,wpAny_setState_of->Co,wpAny_dictEntries->Cp,cellsFrom->Cr,DictEntry->Cs,wpAny_setField_rec->Ct,entryOfKey->Cu,letOwnedTupleGo->Cy,codeAny->CA,wpAny_seqItems->CF,wpAny_setField->CG,wpAny_rule->CK,wpAny_attempt->CT,codeAny_mono->Dh,SetTable->Dk,wpAny_setEntries_of->Dp,pyNext->Dq,rawInt->Dr,wpAny_typeNameOfWhole_valiter->DD,wpAny_typeNameOfWhole_keyiter->DE,wpAny_newList->DF,wpAny_fieldsOf->DH,wpAny_truthy_bool->DI,wpAny_loadPart_at->DL,wpAny_pyIter_slot->DN,compareOp->DQ,codeAny_of_tree->DS,wpAny_dictEpoch->DT,wpAny_isInstance->DW,plainId_quiet->Ec,wpAny_isOneOf_valiter->Ed,firstArgMember->Ef,NameKind->Ej,wpAny_passesOwn->Ek,wpAny_of_eq->Ey,wpAny_pyIter_tuple->EI,tupleKind_room_in1->EJ,wpAny_letGo->EN,pushCells_keeps->EQ,wpAny_specialOf->ET,wpAny_isOneOf_keyiter->EW,binaryOp->EY,attributeBase->EZ,codeAny_call_builtin->Fc,backTo->Fe,standAt->Ft,wpAny_isSubtype_exc->Fv,storedH->Fw,wpAny_call->Fx,wpAny_typeOf->FA,wpAny_comprehension_free->FB,wpAny_execs_nil->FG,pyIter->FH,wpAny_Call_method0_late->FJ,noteFrame->FL,theTreesLotGoes->FM,pickOrder->FT,wpAny_updateSeq->FU,argBest->Gg,isSubtype_stop->Gh,wpAny_tryCatch->Gj,wpAny_notOrdered_dict->Gq,noFill_tuple_add->Gv,wpAny_pyIter_zip->Gw,wpAny_updateSeq_pair->GC,GenState->GE,wpAny_handled->GG,setsByText->GJ,swapsWith->GK,evalArgs_none->GN,excClassObj->GT,codeAny_loop->Hl,compTurn->Hm,wpAny_getItem_heap->Ht,wpAny_bindName->Hv,wpAny_newTuple->Hx,wpAny_letOwnedTupleGo_zip->Hy,wpAny_runValue->Hz,assign->HU,assignEach->HV,wpAny_pyIter_list->HW,IsPair->HZ,argsOk->Ib,arm_evalThenUse_ListComp->Ie,intKind_is->Ij,holding->Iq,behindInMarks->Ir,seq_tuple_add->Iu,compEnvC->Iw,wpAny_noted->Ix,wpAny_throw->Iz,wpAny_onRaise->IA,unsupported->IB,wpAny_alloc->IE,comprehension->IF,atKey->IJ,dictSetHashed->IL,checkBuiltinCall->IS,pairTrees_length->IV,wpAny_Call_method_late->Ja,codeAny_compStart_list->Jb,wpAny_Assign_Subscript->Jc,again->Jg,Keyword->Jh,concat_meets->Ji,getItem->Jj,firstIterPos->Jq,exec_Assign_Name_used->Jr,compStart->Js,theWindowsPlace->Jt,scanBound->Jv,weight_type_call_type->Jw,builtinLookup_eq_fast->Jx,wpAny_ite_split->Jy,size_of_entries->JD,wpAny_load->JG,checkCount->JH,relayAll->JI,wpAny_pyIter_valiter->JS,Result->JV,isSubtype_type->Ka,wpAny_Tuple_spliced->Kd,subscripted->Ke,keywordEach->Kn,Model->Ky,wpAny_Constant_int->Kz,assignInOrder->KA,seqItems?->KN,newTuple->KO,compPost->KR,wpAny_notedAt->KS,wpAny_setItem_heap->KZ,callerA->Lj,collect->Lm,typeLookup->Lp,firstAsync->Lq,wpAny_storeSet_of->Lr,atKey_none_of_get->Ly,cellsFrom_ok->LK,call_meetsIn->LN,wpAny_eqBool_int->LO,wpAny_execs_cons->LP,wpAny_Dict_empty->LW,wpAny_forIn_list->LY,IntMulOk->Mb,raiseNew->Mc,fieldsOf->Me,BindsTo->Mg,newExc->Mk,newList->Mm,pushCells->Mo,firstIter->Mp,putSet_of->Ms,updateSeq->Mt,putAt->Mv,builtinsNs->MD,wpAny_Name->ME,PlainAttrs->MG,call_meets->MH,call->MI,isInstance->ML,bindName->MN,backToKw->MO,IsZip->MQ,ZipApart->MR,CellsOk->MW,relabel->MX,entryFor->MZ,Within->Ni,Drawn->Nj,newFields->Nm,wpAny_ite->Nn,drawOrder->No,bindL->Nw,bindC->Nx,field->Ny,setNext->NB,Walks->NI
open PySem.Heap renaming get?_push_of_some->Ac,get?_push_size->Ag,lt_size->Ap,get?_update_other->AF,get?_update_self->AQ,size_push->Bo,SameBut->Cc,get?_push_ne->Fa,size_update->Fn,ExtBut->Iy,get?_update_ne->Ku,IsTuple->Nl
open List renaming mem_singleton->Ae,length_map->Ah,length_append->Ai,mem_cons->Aj,mem_cons_of_mem->Al,mem_cons_self->Am,mem_append_right->An,size_toArray->Ao,getElem?_eq_some_iff->Aq,mem_of_getElem?->Au,getElem?_eq_getElem->Ax,map_cons->AA,take_length->AE,pairwise_cons->AG,length_cons->AJ,all_eq_true->AK,append_nil->AM,getElem?_map->AO,mem_flatMap->AS,map_append->Bh,mem_filter->Bi,mem_append->Bj,mem_map->Bk,flatMap_cons->Bm,append_assoc->By,length_take->Bz,not_mem_nil->BF,flatMap_append->BP,range->BQ,getD_eq_getElem?_getD->BR,length_reverse->BV,map_nil->BX,getElem?_eq_none->Cg,mem_range->Cm,take_zero->CI,mem_append_left->CL,getElem?_of_mem->CM,mem_of_mem_take->CN,length_pos_iff->CV,getElem?_toArray->CY,foldl_append->CZ,nodup_nil->Dc,filterMap_cons->Do,nodup_cons->Dv,foldl_cons->Dw,zip_cons_cons->DA,pairwise_singleton->DG,mem_filterMap->DY,take_append_drop->Ee,of_mem_zip->El,any_cons->Ew,lookup_cons->EA,eq_nil_of_length_eq_zero->EB,flatMap_nil->EC,length_replicate->EM,length_nil->EO,find?_cons->EV,length_eraseIdx_of_lt->Fb,replicate->Fg,getElem_mem->Fp,cons_append->Fs,forIn_cons->FK,length_pos_of_mem->FX,ext_getElem?->Gc,nodup_append->Gd,length_range->Ge,length_filter_le->Gr,zipIdx_nil->GP,getElem?_range->GU,exists_cons_of_ne_nil->Hf,contains_cons->Hq,filter_append->Hu,pairwise_iff_getElem->HH,reverse_cons->HY,take_add_one->Il,all_cons->Iv,length_eq_zero_iff->IN,zipIdx_cons->IQ,filter_cons->IW,getElem?_set_self->IX,filter_eq_nil_iff->Jd,length_singleton->Jk,contains_iff_mem->JB,filter_nil->JE,getElem?_set_ne->JK,pairwise_append->JQ,forIn_nil->JY,mem_map_of_mem->Kv,map_eq_nil_iff->Kx,filterMap_map->KD,take_sublist->Li,mapM_toArray->Lo,map_map->LI,range'_succ->LZ,any_eq_true->Ma,length->Mh,filterMap->My,map->MU,nil_perm->Nf,sum_cons->Ng,lookup->NA,range'->NE
open PySem.W renaming Frag->Af,nsIn->As,keepIn->AI,codeIn->AR,mg_of->AU,fnOf->AZ,mg_none_of->Bx,findIn->BK,kia_one->CS,KeysLit->Eo,tailIn->ED,kitOne->Ff,callWith_K->FI,Looks->FQ,methodObj->HS,cellsFrom_some->IY,instObj->Jf,OpenLaw->Jl,looks_findIn->JO,lookIn->JU,looks_clsIn->Kt,mroIn->KC,kitx_list->Lg,kitx_dict->Lh,plainGet->LQ,InstAt->Mx,typeIn->Mz,WalkO->MP,clsIn->MV
open Nat renaming le_refl->Ak,lt_of_lt_of_le->Aw,le_trans->Ay,ne_of_lt->AC,zero_le->AL,lt_irrefl->BC,ne_of_gt->Cd,lt_succ_of_lt->Cn,le_succ->CC,succ_le_succ->CJ,lt_succ_self->DC,le_succ_of_le->DO,lt_of_le_of_lt->DZ,lt_or_ge->Eu,le_of_lt->EL,le_add_right->Fq,le_of_eq->Fz,min_eq_left->FN,le_of_ble_eq_true->Gu,blt->GY,succ_mul->Hs,lt_trichotomy->Ih,lt_add_of_pos_right->ID,le_of_not_lt->IP,not_lt_zero->Jn,pow_le_pow_right->JP,mul_le_mul_right->JR,add_sub_cancel->KP,lt_or_eq_of_le->KW,min_self->LC,zero_add->LF,sub_zero->LG,succ_pos->LH,lt_trans->LL,max_eq_right->LS,mod_lt->MM,pow_succ->Nq,ble->NJ
open Bool renaming false_ne_true->Av,and_eq_true->AD,false_eq_true->BN,eq_iff_iff->GL,and_false->Hw,or_eq_true_iff->Ks,or_true->LJ,or_eq_true->Mj,not_true->MT,or_false->Nb
open PySem.Heap.SameBut renaming update->AX,refl->Ik
open Or renaming inr->Ba,inl->Bc
open PyProof.Rows renaming seqObj->Bg,arrOf->BL,wpS_bind->Cj,callWith_type1->Cz,wpS_pure->Dt,listUpdate_at->Du,listItems_at->Ea,slot_tuple_getitem->Ep,IntsAre->EG,SortSt->Fi,pendingOf->Fj,get?_update_seq->FO,entry_list_sort->FP,size_push'->Gb,slot_list_sort->Gi,callWith_builtin1->Gk,wpS_forRange->Gm,entry_proto_collect'->GD,failedOf->GH,seqEpoch_at->GR,assignInOrder_cons->Hi,kindOf->Hk,plain_sorted->Hn,entry_sorted->Ho,args_list_sort->HP,Keyed->Ia,sortedHeap->Ig,AllBare->Ip,kind_sorted->IC,entry_list_iadd'->IR,subscriptTail_builtinR->IZ,args_sorted1->Ju,envOfC->JW,slicePart_none->JX,sortedHeap_old->JZ,wpS_reverse->Kp,mirror_perm->Kq,sortedHeap_at->KU,assignInOrder_nil->Lf,setPending->Ll,general'->Md,wpS_get->Ml,Subscript_->MF,wpS_modify->MK,wpS_mono->MS
open Array renaming getElem?_eq_getElem->Br,length_toList->Bt,getElem?_toList->BA,getD_eq_getD_getElem?->Ca,getElem?_eq_none->CQ,getElem?_eq_some_iff->Dj,perm_iff_toList_perm->DV,mem_toList_iff->Ei,toList_inj->Fo,mem_of_getElem?->Go,size_map->HN,size_push->Jo,size_append->Ln,toList_push->Ls,isEmpty_iff->Lz,toList->Nk
open PySem.Obj renaming data_mapFields->Bv,mapSeq->BB,isFreed_of_fields->Cf,cls_mapFields->DK,mapFields->Ez,data_mapDictKeys->Fd,isFreed_of_dict->GX,putSet->JJ,data_mapDict->LX
open PySem.PassesOwn renaming never->BD
open PySem.F renaming plainAttrs_list->BH,slot_list_append->Cv,type_list_append->Cw,called_set->CD,slot_dict_valueiterator_next->CO,slot_dict_keyiterator_next->Db,slot_tuple_iterator_next->DU,plain_max_loop->DX,args_tuple_add_2->Em,entry_tuple_add->Ev,slot_tuple_add->EF,slot_bool_hash->EH,slot_set_iter->EU,slot_dict_getitem->Fm,slot_list_extend->FC,type_list_extend->FD,slot_dict_keyiterator_iter->FF,slot_dict_values->FV,args_dict_valueiterator_next_1->FW,entry_dict_valueiterator_next->Gf,args_dict_keyiterator_next_1->Gs,entry_dict_keyiterator_next->Gz,args_tuple_iterator_next_1->GF,entry_tuple_iterator_next->GO,slot_zip_next->GQ,plain_set_new->GV,plain_extend_loop->HQ,slot_dict_update->Io,plain_list_iadd->II,slot_dict_values_iter->IK,entry_max_loop->IT,slot_dict_iter->IU,args_list_extend_2->JN,args_dict_values_1->JT,entry_list_extend->Ko,entry_dict_values->Kw,slot_list_extend->KI,type_dict_values->La,args_zip_next_1->Lk,entry_type_call->Lu,plainAttrs_dict->Lx,entry_zip_next->LR,entry_set_init->LU,entry_set_new->Mr
open List.Pairwise renaming nil->BJ
open Ne renaming symm->BT
open PySem.Builtin.SmallTypes renaming nextOf->BU,ownedTupleIsFree->CU,ownedTupleHandOut->Fh
open PySem.Value renaming none->BY,type->Dy,int->DP,bool->JF,isStrOf_shape->Kc,str->Nh,isInt->Nt,float->Nu
open Int renaming toNat_natCast->BZ,emod_lt_of_pos->CP,emod_nonneg->Dx,mul_le_mul_of_nonneg_left->Gy,fdiv_eq_ediv_of_nonneg->Ha,le_trans->JA,lt_trichotomy->Lv,ediv_le_self->LV,le_antisymm->Mq,ediv_nonneg->Mu,le_refl->Mw,lt_trans->Nr
open Option.some renaming inj->Ck
open PySem.Around renaming under_plainId->Cq,under_plain->KY,under->LA
open PySem.Builtin.List renaming listExtendWith->CB,listUpdate->Dg,listItems->Dm,listTooLong->En,listLengthHint->ES,listSameRef->Im
open PySem.SetTable renaming below->CH,insertAt->DM,grown->EE,sizeAbove->Hr,has->LM,Probe->MA,slot->MY,fits->Na
open PySem.Str renaming ofString->CW
open PySem.Builtin.Dict_items renaming ownsTuple->Da
open PyProof.Rows.KeyOrd renaming kle_refl->Df,kle_of_klt->Ga,kle_trans->Gx,kle_antisymm->Kr
open PySem.pickOrder renaming go->Di
open PySem.Calls renaming callWith_builtin->Dl,call_function_entry->Eh,evalArgs_plain->GB,Name_function_global->GZ,spliced_cons->Hj,spliced_nil->HX
open PySem.Paired renaming length->Ds,snoc->NC
open False renaming elim->Dz
open PySem.Code renaming quiet_builtin->DB,isFrame->LB,frames->Nv
open True renaming intro->DJ
open ForInStep renaming yield->DR
open PySem.NameKind renaming cell->Eb,free->Ex
open PySem.Builtin.Slice renaming slicePlaces->Eg,sliceAdjust->Fk,sliceApplied->Hd
open PySem.Builtin.Tuple renaming tupleExact->Er
open PySem.SetTable.below renaming go->Es
open PySem.Builtin.Frozenset renaming sizeOf->Et,newClass->He
open And renaming intro->ER
open List.Perm renaming refl->Fl,append_left->Jz,cons_inv->Lb,swap->MB
open PySem.Builtin.Int renaming intBits->Fu,intTooBig->Jm
open PySem.SeqAt renaming EqAt->Fy,RcNeAt->LD,in_listAt->Mi,RcAt->MJ
open PySem.Builtin.ObjectAttr renaming storeInOwnDict->FR,storeInDict->Gn
open PyProof.Rows.F renaming plain_set_update_loop->FS,entry_set_update_loop->IG
open Option renaming map_eq_some_iff->FY,isSome_some->KQ,isSome_map->Lw,map->NG
open Lean renaming maxRecDepth->FZ
open PySem.SetTable.sizeAbove renaming go->Gp
open PySem.SeqAt.EqAt renaming bool_bool->GA,same->GM,int_str->Hg,str_int->Hh,none_bool->JL,bool_none->JM,none_int->Kf,none_str->Kg,bool_int->Kh,bool_str->Ki,int_none->Kj,int_bool->Kk,str_none->Kl,str_bool->Km,int_int->KG,str_str->KH,of_refs->KM
open PyProof.Rows.SortSt renaming mk'->GI
open PySem.EntryCells renaming newEntry->GS
open PySem.Builtin.Builtins renaming bindParams->GW
open PySem.SeqAt.RcNeAt renaming lists_lengths->Hb,lists->KL
open Classical renaming byContradiction->HR
open PySem.SetTable.probe renaming go->Ii
open PySem.Shared renaming TypeIs->IH,heap->Nz
open PySem.Builtin.Dict renaming updateFrom->IM,mergeDict->Je,showsAll->JC
open Array.Perm renaming refl->Jp
open PyProof.Rows.IsTup renaming new->KB
open LawfulMonad renaming pure_bind->KJ
open Sum renaming inl->Lc,inr->Ld
open MonadExcept renaming tryCatch->Mf
open StateT renaming run_pure->Mn
open PySem.Bind renaming checkArgs->MC
open PySem.CmpOf renaming ints_gt->Nc
open List.cons renaming inj->Nd
open PySem.Expr renaming Call->Np
open PySem.Walks renaming tuple->ND,list->NH
open PUnit renaming unit->NF
set_option Elab.async false
set_option linter.all false
set_option maxRecDepth 100000
namespace L2
open PySem PySem.Spec PyProof.Rows
noncomputable abbrev Key:=Sum Int Str
noncomputable def aJt:Key->Value->Bool
 | .inl k,v=>Nt k v
 | .inr x,v=>Value.isStrOf x v
noncomputable def keyH (w:AV):Key->Int
 | .inl k=>hashInt k
 | .inr x=>hashStr w x
theorem zi:∀ {k:Key} {v:Value},aJt k v=true->(∃ i t,k=Lc i/\v=DP i t)\/(∃ x t,k=Ld x/\v=Nh x t)
 | .inl i,v,h=>by
  obtain ⟨t,e⟩:=Value.isInt_shape (k:=i) (v:=v) h
  exact .inl ⟨i,t,rfl,e⟩
 | .inr x,v,h=>by
  obtain ⟨t,e⟩:=Kc (x:=x) (v:=v) h
  exact .inr ⟨x,t,rfl,e⟩
theorem aJu (a b:Int):decide ((Lc a:Key)=Lc b)=(a == b):=by
 by_cases e:a=b
 ·subst e; simp
 ·have h:¬ (Lc a:Key)=Lc b:=fun q=>e (Sum.inl.inj q)
  rw [decide_eq_false h]
  exact (beq_eq_false_iff_ne.mpr e).symm
theorem aJv (a b:Str):decide ((Ld a:Key)=Ld b)=decide (a=b):=by
 by_cases e:a=b
 ·subst e; simp
 ·have h:¬ (Ld a:Key)=Ld b:=fun q=>e (Sum.inr.inj q)
  rw [decide_eq_false h,decide_eq_false e]
theorem aJw (a:Int) (b:Str):decide ((Lc a:Key)=Ld b)=false:=decide_eq_false (fun q=>nomatch q)
theorem aJx (a:Str) (b:Int):decide ((Ld a:Key)=Lc b)=false:=decide_eq_false (fun q=>nomatch q)
noncomputable def aCi (prog:At) (w:AV):PySem.KeyKind prog w Key where
 is:=aJt
 hash:=keyH w
 inj:=fun v a b ha hb=>by
  rcases zi ha with ⟨i,t,rfl,rfl⟩ | ⟨x,t,rfl,rfl⟩
  ·rcases zi hb with ⟨j,u,rfl,e⟩ | ⟨y,u,rfl,e⟩
   ·injection e with e1 _; rw [e1]
   ·exact nomatch e
  ·rcases zi hb with ⟨j,u,rfl,e⟩ | ⟨y,u,rfl,e⟩
   ·exact nomatch e
   ·injection e with e1 _; rw [e1]
 byValue:=fun k v h=>by
  rcases zi h with ⟨i,t,rfl,rfl⟩ | ⟨x,t,rfl,rfl⟩ <;> rfl
 pyHash:=fun hv h=>by
  rcases zi hv with ⟨i,t,rfl,rfl⟩ | ⟨x,t,rfl,rfl⟩
  ·exact wpAny_pyHash_int h
  ·exact wpAny_pyHash_str h
 eqBool:=fun hu hv h=>by
  rcases zi hu with ⟨i,t,rfl,rfl⟩ | ⟨x,t,rfl,rfl⟩
  ·rcases zi hv with ⟨j,u,rfl,rfl⟩ | ⟨y,u,rfl,rfl⟩
   ·rw [aJu] at h; exact LO h
   ·rw [aJw] at h; exact Hg i t y u _ _ _ _ h
  ·rcases zi hv with ⟨j,u,rfl,rfl⟩ | ⟨y,u,rfl,rfl⟩
   ·rw [aJx] at h; exact Hh x t j u _ _ _ _ h
   ·rw [aJv] at h; exact wpAny_eqBool_str h
 «strs»:=fun k x t v h=>by
  rcases zi h with ⟨i,u,rfl,e⟩ | ⟨y,u,rfl,e⟩
  ·exact nomatch e
  ·injection e with e1 _
   subst e1
   cases v <;> rfl
inductive V where
 | non | bl (b:Bool) | int (i:Int) | str (x:Str) | byt (b:Array UInt8) | flt (b:UInt64) | ref (a:Addr) | ty (n:String)
 deriving DecidableEq
noncomputable def RelV:V->Value->Prop
 | .non,u=>u=BY
 | .bl b,u=>u=JF b
 | .int i,u=>∃ t,u=DP i t
 | .str x,u=>∃ t,u=Nh x t
 | .byt b,u=>∃ t,u=Value.bytes b t
 | .flt b,u=>∃ t,u=Nu b t
 | .ref a,u=>u=Value.ref a
 | .ty n,u=>u=Dy n
noncomputable abbrev Vals:List V->List Value->Prop:=AH RelV
theorem Vals.length {xs:List V} {us:List Value} (r:Vals xs us):xs.length=us.length:=Ds r
theorem Vals.get:∀ {xs:List V} {us:List Value} {i:Nat} {x:V},Vals xs us->xs[i]?=some x->∃ u,us[i]?=some u/\RelV x u
 | _,_,_,_,.nil,e=>by simp at e
 | _,_,0,_,.cons r _,e=>by simp at e; subst e; exact ⟨_,rfl,r⟩
 | _,_,i + 1,x,.cons _ t,e=>by
  obtain ⟨u,h1,h2⟩:=Vals.get (i:=i) (x:=x) t (by simpa using e)
  exact ⟨u,by simpa using h1,h2⟩
theorem Vals.append:∀ {xs ys:List V} {us ws:List Value},Vals xs us->Vals ys ws->Vals (xs++ys) (us++ws)
 | _,_,_,_,.nil,s=>s
 | _,_,_,_,.cons r t,s=>.cons r (Vals.append t s)
noncomputable def RelO:Option V->Option Value->Prop
 | some v,some u=>RelV v u
 | none,none=>True
 | _,_=>False
noncomputable def KV {κ:Type}:List (κ×V)->List (κ×Value)->Prop:=AH fun (p:κ×V) (q:κ×Value)=>p.1=q.1/\RelV p.2 q.2
noncomputable def kV:Key->V
 | .inl i=>.int i
 | .inr x=>.str x
inductive HO where
 | lst (xs:List V)
 | tup (xs:List V)
 | dK (kvs:List (Key×V)) | dT (kvs:List (List Key×V))
 | set (S:Int->Bool) (n:Nat)
 | ins (C dx:Addr) (fs:List (Str×V))
 | own (x:Addr)
 | xd (fs:List (Str×V))
 | met (f x:Addr)
 | rng (lo hi:Int)
 | frz (o:Obj) (u:HO)
 | tbl (ps:Array Value)
 | ext (φ:Heap->Prop)
noncomputable abbrev Hp:=Addr->Option HO
noncomputable def upd (H:Hp) (a:Addr) (o:HO):Hp:=fun b=>if b=a then some o else H b
theorem zC {H:Hp} {a:Addr} {o:HO}:upd H a o a=some o:=by unfold upd; rw [if_pos rfl]
theorem zH {H:Hp} {a b:Addr} {o:HO} (h:b≠a):upd H a o b=H b:=by unfold upd; rw [if_neg h]
theorem aIc {H:Hp} {a:Addr} {o u:HO}:upd (upd H a o) a u=upd H a u:=by
 funext b; unfold upd; split <;> rfl
theorem zD {H:Hp} {a b:Addr} {o:HO} (h:H a=some o) (h':H b=none):a≠b:=by
 intro e; subst e; rw [h] at h'; cases h'
section
variable (P:At) (w:AV)
noncomputable def ObjOk (H:Hp) (h:Heap) (a:Addr):HO->Prop
 | .lst xs=>xs.length<=sizeLine/\∃ (its:List Value) (n:Nat),Vals xs its/\h.get? a=some { cls:=.type "list",data:=.seq its.toArray n }
 | .tup xs=>xs.length<=sizeLine/\∃ its:List Value,Vals xs its/\IsTup h a its.toArray
 | .dK kvs=>kvs.length<=sizeLine/\(a == BM)=false/\∃ vs,KV kvs vs/\h.DictOf (aCi P w) a vs
 | .dT kvs=>kvs.length<=sizeLine/\(a == BM)=false/\∃ xs:List (List Key×Addr×Value),
   AH (fun (p:List Key×V) (q:List Key×Addr×Value)=>p.1=q.1/\H q.2.1=some (.tup (p.1.map kV))/\RelV p.2 q.2.2) kvs xs /\
   ∃ o es ep,h.get? a=some o/\o.ExactDict/\o.data=.dict es ep/\es.toList=xs.map (Cu (BI (aCi P w)))/\(xs.map (·.1)).Nodup
 | .set S n=>h.SetOf (Ch P w) a S n
 | .ins C dx fs=>H dx=some (.own a)/\fs.length<=1000/\dx≠a/\h.get? a=some (Jf C dx) /\
   ∃ mA,h.Ns1 dx mA/\(∀ f,RelO (fs.lookup f) (mA f))/\Ni mA (fs.map (·.1))
 | .own _=>∃ o,h.get? a=some o
 | .xd fs=>∃ mA,h.Ns1 a mA/\∀ f,RelO (fs.lookup f) (mA f)
 | .rng lo hi=>∃ t u v,h.get? a=some { cls:=.type "range",data:=.fields #[.int lo t,.int hi u,.int 1 v] }
 | .frz o u=>h.get? a=some o/\ObjOk H h a u
 | .tbl ps=>h.get? a=some { cls:=.none,data:=.fields ps }
 | .met f x=>h.get? a=some (HS (.ref f) (.ref x))
 | .ext φ=>φ h/\(∃ o,h.get? a=some o)/\∀ h1 h2:Heap,φ h1->(∀ o,h1.get? a=some o->h2.get? a=some o)->φ h2
noncomputable def HOk (H:Hp) (h:Heap):Prop:=∀ a o,H a=some o->ObjOk P w H h a o
end
section
variable {P:At} {w:AV} {H H':Hp} {h h':Heap} {a:Addr} {o:HO}
theorem ObjOk.lt (x:ObjOk P w H h a o):a < h.objs.size:=by
 cases o with
 | lst xs=>obtain ⟨_,_,_,_,e⟩:=x; exact Ap e
 | tup xs=>obtain ⟨_,_,_,p⟩:=x; exact p.lt
 | dK kvs=>obtain ⟨_,_,_,_,o,_,_,e,_⟩:=x; exact Ap e
 | dT kvs=>obtain ⟨_,_,_,_,o,_,_,e,_⟩:=x; exact Ap e
 | set S n=>obtain ⟨o,_,_,_,e,_⟩:=x; exact Ap e
 | ins C dx fs=>obtain ⟨_,_,_,e,_⟩:=x; exact Ap e
 | own y=>obtain ⟨_,e⟩:=x; exact Ap e
 | xd fs=>obtain ⟨_,⟨_,_,_,e,_⟩,_⟩:=x; exact Ap e
 | rng lo hi=>obtain ⟨_,_,_,e⟩:=x; exact Ap e
 | frz ob u=>obtain ⟨e,_⟩:=x; exact Ap e
 | tbl ps=>exact Ap (show h.get? a=some _ from x)
 | met f y=>exact Ap (show h.get? a=some _ from x)
 | ext φ=>obtain ⟨_,⟨_,e⟩,_⟩:=x; exact Ap e
theorem Paired.mapP {α β:Type} {F G:α->β->Prop}:∀ {l₁:List α} {l₂:List β},AH F l₁ l₂->(∀ a b,F a b->G a b)->AH G l₁ l₂
 | _,_,.nil,_=>.nil
 | _,_,.cons r t,f=>.cons (f _ _ r) (Paired.mapP t f)
theorem ObjOk.stay (x:ObjOk P w H h a o) (k:∀ b u,(b=a\/H b=some (.own a))->h.get? b=some u->h'.get? b=some u)
  (ho:∀ b,H b=some (.own a)->H' b=some (.own a)) (ht:∀ b xs,H b=some (.tup xs)->H' b=some (.tup xs)):ObjOk P w H' h' a o:=by
 induction o with
 | lst xs=>obtain ⟨z,its,n,r,e⟩:=x; exact ⟨z,its,n,r,k _ _ (.inl rfl) e⟩
 | tup xs=>obtain ⟨z,its,r,ob,e,c⟩:=x; exact ⟨z,its,r,ob,k _ _ (.inl rfl) e,c⟩
 | dK kvs=>obtain ⟨z,y,vs,r,ob,es,ep,e,c⟩:=x; exact ⟨z,y,vs,r,ob,es,ep,k _ _ (.inl rfl) e,c⟩
 | dT kvs =>
  obtain ⟨z,y,xs,r,ob,es,ep,e,c⟩:=x
  exact ⟨z,y,xs,Paired.mapP r fun p q z=>⟨z.1,ht _ _ z.2.1,z.2.2⟩,ob,es,ep,k _ _ (.inl rfl) e,c⟩
 | set S n=>obtain ⟨ob,es,ep,t,e,c⟩:=x; exact ⟨ob,es,ep,t,k _ _ (.inl rfl) e,c⟩
 | ins C dx fs =>
  obtain ⟨d,z,ne,e,mA,⟨od,es,ep,e2,c⟩,r⟩:=x
  exact ⟨ho _ d,z,ne,k _ _ (.inl rfl) e,mA,⟨od,es,ep,k _ _ (.inr d) e2,c⟩,r⟩
 | own y=>obtain ⟨ob,e⟩:=x; exact ⟨ob,k _ _ (.inl rfl) e⟩
 | xd fs=>obtain ⟨mA,⟨od,es,ep,e,c⟩,r⟩:=x; exact ⟨mA,⟨od,es,ep,k _ _ (.inl rfl) e,c⟩,r⟩
 | rng lo hi=>obtain ⟨t,u,v,e⟩:=x; exact ⟨t,u,v,k _ _ (.inl rfl) e⟩
 | frz ob u ih=>obtain ⟨e,q⟩:=x; exact ⟨k _ _ (.inl rfl) e,ih q⟩
 | tbl ps =>
  have e:h.get? a=some { cls:=.none,data:=.fields ps }:=x
  show h'.get? a=some { cls:=.none,data:=.fields ps }
  exact k a _ (.inl rfl) e
 | met f y =>
  have e:h.get? a=some (HS (.ref f) (.ref y)):=x
  show h'.get? a=some (HS (.ref f) (.ref y))
  exact k a _ (.inl rfl) e
 | ext φ=>obtain ⟨p,⟨o,e⟩,st⟩:=x; exact ⟨st _ _ p fun o q=>k _ _ (.inl rfl) q,⟨o,k _ _ (.inl rfl) e⟩,st⟩
theorem HOk.lt (x:HOk P w H h) (e:H a=some o):a < h.objs.size:=(x a o e).lt
theorem HOk.fresh (x:HOk P w H h) (e:h.objs.size<=a):H a=none:=by
 cases q:H a with
 | none=>rfl
 | some u=>exact absurd (Aw (x.lt q) e) (BC _)
theorem HOk.kept (x:HOk P w H h) (k:∀ b u,h.get? b=some u->h'.get? b=some u):HOk P w H h':=fun a o e =>
 (x a o e).stay (fun b u _ q=>k b u q) (fun _ q=>q) fun _ _ q=>q
theorem HOk.laid (x:HOk P w H h) (k:∀ b u,h.get? b=some u->h'.get? b=some u) (hp:h.objs.size<=a) (new:ObjOk P w (upd H a o) h' a o):HOk P w (upd H a o) h':=fun b u e=>by
 have hn:=x.fresh hp
 by_cases hb:b=a
 ·subst hb; rw [zC] at e; cases e; exact new
 ·rw [zH hb] at e
  exact (x b u e).stay (fun c v _ q=>k c v q) (fun c q=>by rw [zH (zD q hn)]; exact q) fun c xs q=>by rw [zH (zD q hn)]; exact q
end
noncomputable def Rd (H:Hp) (a:Addr) (u:HO):Prop:=H a=some u\/∃ o,H a=some (.frz o u)
theorem Rd.ok {P:At} {w:AV} {H:Hp} {h:Heap} {a:Addr} {u:HO} (r:Rd H a u) (x:HOk P w H h):ObjOk P w H h a u:=by
 rcases r with r | ⟨o,r⟩
 ·exact x a u r
 ·obtain ⟨_,q⟩:=x a _ r
  exact q
noncomputable def Mut:Option HO->Prop
 | some (.lst _)=>True
 | some (.dK _)=>True
 | some (.dT _)=>True
 | some (.set _ _)=>True
 | some (.ins _ _ _)=>True
 | some (.ext _)=>True
 | _=>False
section
variable {P:At} {w:AV} {H:Hp} {h h':Heap} {x e:Addr} {o':HO}
theorem HOk.write (ok:HOk P w H h) (mu:Mut (H x)) (he:e=x\/H e=some (.own x)) (k:∀ b u,b≠e->h.get? b=some u->h'.get? b=some u) (heo:∃ u,h'.get? e=some u)
  (new:ObjOk P w (upd H x o') h' x o'):HOk P w (upd H x o') h':=fun b u q=>by
 have nown:∀ c y,H c=some (.own y)->c≠x:=fun c y r z=>by subst z; rw [r] at mu; exact mu
 have ntup:∀ c xs,H c=some (.tup xs)->c≠x:=fun c xs r z=>by subst z; rw [r] at mu; exact mu
 by_cases hb:b=x
 ·subst hb; rw [zC] at q; cases q; exact new
 ·rw [zH hb] at q
  by_cases hbe:b=e
  ·have q':H b=some (.own x):=by
    rcases he with z | z
    ·exact absurd (hbe.trans z) hb
    ·rw [hbe]; exact z
   rw [q] at q'; cases q'
   obtain ⟨v,hv⟩:=heo
   exact ⟨v,by rw [hbe]; exact hv⟩
  ·refine (ok b u q).stay (fun c v hc r=>k c v ?_ r) (fun c r=>by rw [zH (nown c b r)]; exact r) fun c xs r=>by rw [zH (ntup c xs r)]; exact r
   rcases hc with rfl | hc
   ·exact hbe
   ·rintro rfl
    rcases he with z | z
    ·exact nown c b hc z
    ·rw [hc] at z; cases z; exact hb rfl
end
structure Un (fs ex:List Addr) (H H':Hp) (h h':Heap):Prop where
 keep:∀ b o,h.get? b=some o->H b=none->b ∉ fs->b ∉ ex->h'.get? b=some o
 slot:∀ b o,h.get? b=some o->H b=none->b∈fs->b ∉ ex->∃ sl,h'.get? b=some { o with slots:=sl }
 free:∀ b o,h.get? b=some o->H b=none->b ∉ ex->H' b=none
 there:∀ b o,h.get? b=some o->b ∉ ex->∃ o',h'.get? b=some o'
 tups:∀ b xs,H b=some (.tup xs)->H' b=some (.tup xs)
 frzs:∀ b o u,H b=some (.frz o u)->H' b=some (.frz o u)
 tbls:∀ b ps,H b=some (.tbl ps)->∃ more,H' b=some (.tbl (ps++more))
section
variable {fs fs' ex ex':List Addr} {H H1 H2:Hp} {h h1 h2 h':Heap} {a x e:Addr} {o:HO}
theorem Un.any (u:Un fs ex H H1 h h1) {b:Addr} {ob:Obj} (q:h.get? b=some ob) (n:H b=none) (hx:b ∉ ex):∃ sl,h1.get? b=some { ob with slots:=sl }:=by
 by_cases hb:b∈fs
 ·exact u.slot b ob q n hb hx
 ·exact ⟨ob.slots,u.keep b ob q n hb hx⟩
theorem Un.kept (k:∀ b u,h.get? b=some u->h'.get? b=some u):Un fs ex H H h h' :=
 ⟨fun b ob q _ _ _=>k b ob q,fun b ob q _ _ _=>⟨ob.slots,k b ob q⟩,fun _ _ _ n _=>n,fun b ob q _=>⟨ob,k b ob q⟩,fun _ _ q=>q,fun _ _ _ q=>q,fun _ ps q=>⟨#[],by rw [q]; simp⟩⟩
theorem Un.refl:Un fs ex H H h h:=Un.kept fun _ _ q=>q
theorem Un.laid (k:∀ b u,h.get? b=some u->h'.get? b=some u) (hp:h.objs.size<=a) (hn:H a=none):Un fs ex H (upd H a o) h h' where
 keep:=fun b u q _ _ _=>k b u q
 slot:=fun b u q _ _ _=>⟨u.slots,k b u q⟩
 free:=fun b u q n _=>by rw [zH (AC (Aw (Ap q) hp))]; exact n
 there:=fun b u q _=>⟨u,k b u q⟩
 tups:=fun b xs q=>by rw [zH (zD q hn)]; exact q
 frzs:=fun b u xs q=>by rw [zH (zD q hn)]; exact q
 tbls:=fun b ps q=>⟨#[],by rw [zH (zD q hn),q]; simp⟩
theorem Un.write (mu:Mut (H x)) (he:e=x\/H e=some (.own x)) (k:∀ b u,b≠e->h.get? b=some u->h'.get? b=some u) (heo:∃ u,h'.get? e=some u):Un fs ex H (upd H x o) h h':=by
 have hx:∀ b,H b=none->b≠x:=fun b n z=>by subst z; rw [n] at mu; exact mu
 have hb:∀ b,H b=none->b≠e:=fun b n z=>by
  subst z
  rcases he with r | r
  ·exact hx b n r
  ·rw [n] at r; cases r
 have hm:∀ b u,H b=some u->¬ Mut (some u)->b≠x:=fun b u q nm z=>by subst z; rw [q] at mu; exact nm mu
 refine ⟨fun b u q n _ _=>k b u (hb b n) q,fun b u q n _ _=>⟨u.slots,k b u (hb b n) q⟩,fun b u q n _=>by rw [zH (hx b n)]; exact n,fun b u q _=>?_,
  fun b xs q=>by rw [zH (hm b _ q fun z=>z)]; exact q,fun b u xs q=>by rw [zH (hm b _ q fun z=>z)]; exact q,fun b ps q=>⟨#[],by rw [zH (hm b _ q fun z=>z),q]; simp⟩⟩
 by_cases hbe:b=e
 ·subst hbe; exact heo
 ·exact ⟨u,k b u hbe q⟩
end
noncomputable def trk (h:Heap) (H:Hp):List Addr:=(BQ h.objs.size).filter fun a=>(H a).isSome
noncomputable def hidT (h:Heap) (H:Hp):Heap:=PySem.W.hideAll h (trk h H)
theorem aEq (h:Heap) (H:Hp):(hidT h H).objs.size=h.objs.size:=PySem.W.hideAll_size _ _
theorem aH7 {h:Heap} {H:Hp} {b:Addr} {o:Obj} (e:h.get? b=some o) (n:H b=none):(hidT h H).get? b=some o :=
 PySem.W.hideAll_get _ e fun hm=>by
  have q:(H b).isSome=true:=(Bi.mp hm).2
  rw [n] at q; simp at q
theorem aId {h:Heap} {H:Hp} {b:Addr} {o:Obj} (e:(hidT h H).get? b=some o):h.get? b=some o/\H b=none:=by
 have e':h.get? b=some o:=PySem.W.of_hideAll (trk h H) e
 refine ⟨e',?_⟩
 cases q:H b with
 | none=>rfl
 | some x =>
  have hm:b∈trk h H:=Bi.mpr ⟨Cm.mpr (Ap e'),by simp [q]⟩
  have z:(hidT h H).get? b=none:=PySem.W.hideAll_none (trk h H) hm
  rw [z] at e; cases e
structure Mod (K:Af) (mg:Str->Option Value) (base:Heap):Prop where
 kin:K.In base
 glob:base.Ns Az mg
 blt:∃ mb,base.Ns MD mb/\∀ x:Str,x≠"__name__"->mb x=BW x
 nolimit:base.NoLimit
structure Cx where
 prog:At
 w:AV
 K:Af
 mg:Str->Option Value
 base:Heap
 A:AY
 N:List Str
 s₀:Ad
 H₀:Hp
 env:Env
 outer:List Env
 stack:List Env
 ex:List Addr
 fn:Str->Bool
 calm:Bool
 pn:List (Addr×Obj)
 xe:Value->Ad->Prop
noncomputable def frs (l:List Env):List Addr:=l.filterMap (·.frame)
noncomputable abbrev Cx.fs (X:Cx):List Addr:=frs X.outer
noncomputable def Vis (sc:Scope) (x:Str):Prop:=sc.names.lookup x=some .local\/sc.names.lookup x=some .cell\/sc.names.lookup x=some .free
noncomputable def Loc (sc:Scope) (x:Str):Prop:=sc.names.lookup x=some .local\/sc.names.lookup x=some .cell
noncomputable def Look (env:Env) (h:Heap) (m:Str->Option Value) (x:Str) (u:Value):Prop :=
 (env.kindOf x=some .local/\m x=some u)\/((env.kindOf x=some .cell\/env.kindOf x=some .free)/\∃ c,env.cells.lookup x=some c/\h.IsCell c (some u))
structure Cx.Ok (X:Cx):Prop where
 mod:Mod X.K X.mg X.base
 kind:X.env.scope.kind=.function
 glob:X.env.globals=Az
 blt:X.env.builtins=MD
 above:X.s₀.heap.objs.size<=X.env.locals
 inj:∀ x y c,X.env.cells.lookup x=some c->X.env.cells.lookup y=some c->x=y
 has:∀ x,(X.env.kindOf x=some .cell\/X.env.kindOf x=some .free)->∃ c,X.env.cells.lookup x=some c
 cab:∀ x c,X.fn x=true->X.env.cells.lookup x=some c->X.s₀.heap.objs.size<=c
 hd:X.calm=true->X.A.handled=none
 frames:X.A.frames=some X.stack
 stk:X.stack=X.outer\/(X.stack=X.env :: X.outer/\X.env.frame=some X.env.locals)
 exf:∀ b∈X.ex,b≠X.env.locals/\∀ x c,X.env.cells.lookup x=some c->c≠b
 bs:∀ b o,X.base.get? b=some o->X.s₀.heap.get? b=some o/\X.H₀ b=none
 bsz:X.base.objs.size<=X.s₀.heap.objs.size
 noex:∀ b o,X.base.get? b=some o->b ∉ X.ex
 exfs:∀ b∈X.ex,b ∉ X.fs
 funs:X.s₀.heap.FunFrames X.base X.outer
 frf:∀ b∈X.fs,X.H₀ b=none
structure Inv (X:Cx) (pins:List (Addr×Obj)) (σ:List (Option V)) (H:Hp) (s:Ad):Prop where
 ok:X.Ok
 os:s.os=X.s₀.os
 bare:Ip s.gens
 base:Un X.fs X.ex X.H₀ H X.s₀.heap s.heap
 loc:∃ m,s.heap.Ns X.env.locals m/\∀ (i:Nat) (x:Str) (v:V),X.N[i]?=some x->σ[i]?=some (some v)->Vis X.env.scope x->∃ u,RelV v u/\Look X.env s.heap m x u
 cell:∀ x c,X.env.cells.lookup x=some c->∃ v,s.heap.IsCell c v
 free:H X.env.locals=none
 freeC:∀ x c,X.env.cells.lookup x=some c->H c=none
 pin:∀ p∈X.pn++pins,s.heap.get? p.1=some p.2/\H p.1=none/\p.1≠X.env.locals/\p.1 ∉ X.fs/\∀ v,p.2.data≠.cell v
 hok:HOk X.prog X.w H s.heap
 len:σ.length=X.N.length
section
variable {X:Cx} {pins:List (Addr×Obj)} {σ:List (Option V)} {H H':Hp} {s:Ad} {h':Heap}
theorem Cx.Ok.nofr (ok:X.Ok) {b:Addr} {o:Obj} (e:X.base.get? b=some o):b ∉ X.fs:=fun hb=>by
 have:=(ok.funs.mem hb).1
 rw [e] at this; cases this
theorem Inv.bs (I:Inv X pins σ H s):∀ b o,X.base.get? b=some o->s.heap.get? b=some o/\H b=none:=fun b o e =>
 ⟨I.base.keep b o (I.ok.bs b o e).1 (I.ok.bs b o e).2 (I.ok.nofr e) (I.ok.noex b o e),I.base.free b o (I.ok.bs b o e).1 (I.ok.bs b o e).2 (I.ok.noex b o e)⟩
theorem Inv.bk (I:Inv X pins σ H s):∀ b o,X.base.get? b=some o->s.heap.get? b=some o:=fun b o e=>(I.bs b o e).1
theorem Inv.mod (I:Inv X pins σ H s):Mod X.K X.mg X.base:=I.ok.mod
theorem Inv.kIn (I:Inv X pins σ H s):X.K.In s.heap:=I.ok.mod.kin.keeps I.bk
theorem Inv.fr (I:Inv X pins σ H s):∃ m,Fr X.base X.env.locals s.heap m :=
 let ⟨m,hn,_⟩:=I.loc
 ⟨m,hn,I.bk,Ay I.ok.bsz I.ok.above⟩
theorem Inv.lt (I:Inv X pins σ H s):X.env.locals < s.heap.objs.size:=let ⟨_,hn,_⟩:=I.loc; hn.lt
theorem Inv.sz (I:Inv X pins σ H s):X.s₀.heap.objs.size<=s.heap.objs.size:=Ay I.ok.above (EL I.lt)
theorem Inv.nofs (I:Inv X pins σ H s) {a:Addr} (h:s.heap.objs.size<=a):a ∉ X.fs:=fun hb=>by
 obtain ⟨_,o,ho,_⟩:=I.ok.funs.mem hb
 exact absurd (Aw (Ap ho) (Ay I.sz h)) (BC _)
theorem Inv.cne (I:Inv X pins σ H s):∀ x c,X.env.cells.lookup x=some c->c≠X.env.locals:=fun x c e z=>by
 obtain ⟨v,o,ho,hd⟩:=I.cell x c e
 obtain ⟨m,⟨o',es,ep,ho',hd',_⟩,_⟩:=I.loc
 rw [z,ho'] at ho; cases ho; rw [hd'] at hd; cases hd
theorem Inv.funs (I:Inv X pins σ H s):s.heap.FunFrames X.base X.outer:=by
 have all:∀ (l:List Env),(∀ b∈frs l,b∈X.fs)->X.s₀.heap.FunFrames X.base l->s.heap.FunFrames X.base l:=by
  intro l
  induction l with
  | nil=>intro _ _; trivial
  | cons env r ih =>
   intro hs hl
   obtain ⟨hk,⟨L,o,hf,hn,ho,hd⟩,hr⟩:=hl
   have hL:L∈X.fs:=hs L (by unfold frs; rw [Do,hf]; exact Am)
   obtain ⟨sl,e⟩:=I.base.slot L o ho (I.ok.frf L hL) hL fun z=>I.ok.exfs L z hL
   exact ⟨hk,⟨L,_,hf,hn,e,hd⟩,ih (fun b hb=>hs b (by unfold frs; rw [Do,hf]; exact Al _ hb)) hr⟩
 exact all X.outer (fun _ hb=>hb) I.ok.funs
theorem Inv.stack (I:Inv X pins σ H s):s.heap.FunFrames X.base X.stack:=by
 rcases I.ok.stk with e | ⟨e,hf⟩
 ·rw [e]; exact I.funs
 ·rw [e]
  obtain ⟨m,hn,_⟩:=I.loc
  refine .cons (by rw [I.ok.kind]; decide) hf hn ?_ I.funs
  exact Heap.get?_none_of_le (Ay I.ok.bsz I.ok.above)
theorem Inv.stkSub (I:Inv X pins σ H s):∀ b∈frs X.stack,b∈X.env.locals :: X.fs:=fun b hb=>by
 rcases I.ok.stk with e | ⟨e,hf⟩
 ·rw [e] at hb; exact Al _ hb
 ·rw [e] at hb
  unfold frs at hb
  rw [Do,hf] at hb
  exact hb
theorem Inv.stkFree (I:Inv X pins σ H s):∀ b∈frs X.stack,H b=none:=fun b hb=>by
 rcases Aj.mp (I.stkSub b hb) with e | hb
 ·rw [e]; exact I.free
 ·obtain ⟨_,o,ho,_⟩:=I.ok.funs.mem hb
  exact I.base.free b o ho (I.ok.frf b hb) fun z=>I.ok.exfs b z hb
theorem Inv.step {g':Array GE} {t':Nat} {d':Nj} {ch:List Addr} (I:Inv X pins σ H s)
  (hch:∀ b∈ch,(b∈X.ex\/X.s₀.heap.objs.size<=b)/\b≠X.env.locals/\(∀ x c,X.env.cells.lookup x=some c->c≠b)/\∀ p∈X.pn++pins,p.1≠b)
  (keep:∀ b o,b≠X.env.locals->b ∉ X.fs->b ∉ ch->s.heap.get? b=some o->H b=none->h'.get? b=some o)
  (slot:∀ b o,b≠X.env.locals->b∈X.fs->b ∉ ch->s.heap.get? b=some o->H b=none->∃ sl,h'.get? b=some { o with slots:=sl }) (free:∀ b o,b ∉ ch->s.heap.get? b=some o->H b=none->H' b=none)
  (there:∀ b o,b ∉ ch->s.heap.get? b=some o->∃ o',h'.get? b=some o')
  (tups:∀ b xs,H b=some (.tup xs)->H' b=some (.tup xs)) (frzs:∀ b o u,H b=some (.frz o u)->H' b=some (.frz o u)) (tbls:∀ b ps,H b=some (.tbl ps)->∃ more,H' b=some (.tbl (ps++more)))
  (ns:∀ m,s.heap.Ns X.env.locals m->h'.Ns X.env.locals m) (hok:HOk X.prog X.w H' h') (hg:Ip g') :
  Inv X pins σ H' { s with heap:=h',gens:=g',drawn:=d',toks:=t' }:=by
 have neL:∀ b o,X.s₀.heap.get? b=some o->b≠X.env.locals:=fun b o e=>AC (Aw (Ap e) I.ok.above)
 have neC:∀ b o,X.s₀.heap.get? b=some o->b ∉ X.ex->b ∉ ch:=fun b o e hx hb=>by
  rcases (hch b hb).1 with z | z
  ·exact hx z
  ·exact absurd (Aw (Ap e) z) (BC _)
 have cellK:∀ x c,X.env.cells.lookup x=some c->∀ v,s.heap.IsCell c v->h'.IsCell c v:=fun x c e v ⟨o,ho,hd⟩=>by
  have nch:c ∉ ch:=fun z=>(hch c z).2.2.1 x c e rfl
  by_cases hc:c∈X.fs
  ·obtain ⟨sl,q⟩:=slot c o (I.cne x c e) hc nch ho (I.freeC x c e)
   exact ⟨_,q,hd⟩
  ·exact ⟨o,keep c o (I.cne x c e) hc nch ho (I.freeC x c e),hd⟩
 refine ⟨I.ok,I.os,hg,⟨fun b o e n hb hx=>?_,fun b o e n hb hx=>?_,fun b o e n hx=>?_,fun b o e hx=>?_,fun b xs e=>tups b xs (I.base.tups b xs e),fun b o xs e=>frzs b o xs (I.base.frzs b o xs e),fun b ps e=>?_⟩,?_,fun x c e=>?_,?_,fun x c e=>?_,fun p hp=>?_,hok,I.len⟩
 ·exact keep b o (neL b o e) hb (neC b o e hx) (I.base.keep b o e n hb hx) (I.base.free b o e n hx)
 ·obtain ⟨sl,e1⟩:=I.base.slot b o e n hb hx
  obtain ⟨sl',e2⟩:=slot b _ (neL b o e) hb (neC b o e hx) e1 (I.base.free b o e n hx)
  exact ⟨sl',e2⟩
 ·obtain ⟨o',e1⟩:=I.base.there b o e hx
  exact free b o' (neC b o e hx) e1 (I.base.free b o e n hx)
 ·obtain ⟨o',e1⟩:=I.base.there b o e hx
  exact there b o' (neC b o e hx) e1
 ·obtain ⟨m1,e1⟩:=I.base.tbls b ps e
  obtain ⟨m2,e2⟩:=tbls b _ e1
  exact ⟨m1++m2,by rw [e2,Array.append_assoc]⟩
 ·obtain ⟨m,hn,hl⟩:=I.loc
  refine ⟨m,ns m hn,fun i x v e1 e2 e3=>?_⟩
  obtain ⟨u,r,l⟩:=hl i x v e1 e2 e3
  refine ⟨u,r,?_⟩
  rcases l with l | ⟨k,c,e,z⟩
  ·exact .inl l
  ·exact .inr ⟨k,c,e,cellK x c e _ z⟩
 ·obtain ⟨v,z⟩:=I.cell x c e
  exact ⟨v,cellK x c e v z⟩
 ·obtain ⟨m,⟨o,_,_,ho,_⟩,_⟩:=I.loc
  exact free _ o (fun z=>(hch _ z).2.1 rfl) ho I.free
 ·obtain ⟨v,o,ho,hd⟩:=I.cell x c e
  exact free c o (fun z=>(hch c z).2.2.1 x c e rfl) ho (I.freeC x c e)
 ·obtain ⟨e,n,ne,nf,d⟩:=I.pin p hp
  have nch:p.1 ∉ ch:=fun z=>(hch p.1 z).2.2.2 p hp rfl
  exact ⟨keep p.1 p.2 ne nf nch e n,free p.1 p.2 nch e n,ne,nf,d⟩
theorem Inv.un {t':Nat} (I:Inv X pins σ H s) (u:Un X.fs [] H H' s.heap h') (hok:HOk X.prog X.w H' h'):Inv X pins σ H' { s with heap:=h',toks:=t' }:=by
 obtain ⟨m,⟨o,es,ep,ho,r⟩,_⟩:=id I.loc
 obtain ⟨sl,hL⟩:=u.any ho I.free (by simp)
 exact I.step (g':=s.gens) (d':=s.drawn) (ch:=[]) (fun _ z=>nomatch z) (fun b o _ hb _ e n=>u.keep b o e n hb (by simp)) (fun b o _ hb _ e n=>u.slot b o e n hb (by simp)) (fun b o _ e n=>u.free b o e n (by simp)) (fun b o _ e=>u.there b o e (by simp)) u.tups u.frzs u.tbls (fun m' hm=>by
  obtain ⟨o',es',ep',ho',r'⟩:=hm
  rw [ho] at ho'; cases ho'
  exact ⟨_,es',ep',hL,r'⟩) hok I.bare
theorem Inv.call {g':Array GE} {t':Nat} {d':Nj} {ch:List Addr} (I:Inv X pins σ H s) (u:Un (frs X.stack) ch H H' s.heap h') (hok:HOk X.prog X.w H' h') (hg:Ip g')
  (hch:∀ b∈ch,(b∈X.ex\/X.s₀.heap.objs.size<=b)/\b≠X.env.locals/\(∀ x c,X.env.cells.lookup x=some c->c≠b)/\∀ p∈X.pn++pins,p.1≠b) :
  Inv X pins σ H' { s with heap:=h',gens:=g',drawn:=d',toks:=t' }:=by
 obtain ⟨m,⟨o,es,ep,ho,r⟩,_⟩:=id I.loc
 obtain ⟨sl,hL⟩:=u.any ho I.free fun z=>(hch _ z).2.1 rfl
 exact I.step (ch:=ch) hch (fun b o hL hb hc e n=>u.keep b o e n (fun z=>(Aj.mp (I.stkSub b z)).elim hL hb) hc) (fun b o _ _ hc e n=>u.any e n hc) (fun b o hc e n=>u.free b o e n hc) (fun b o hc e=>u.there b o e hc) u.tups u.frzs u.tbls (fun m' hm=>by
  obtain ⟨o',es',ep',ho',r'⟩:=hm
  rw [ho] at ho'; cases ho'
  exact ⟨_,es',ep',hL,r'⟩) hok hg
theorem Inv.turned {t':Nat} {it:Addr} (I:Inv X pins σ H s) (k:∀ b o,b≠it->s.heap.get? b=some o->h'.get? b=some o) (hn:H it=none) (hL:it≠X.env.locals)
  (h1:it∈X.ex\/X.s₀.heap.objs.size<=it) (h2:∀ x c,X.env.cells.lookup x=some c->c≠it) (h3:∀ p∈X.pn++pins,p.1≠it):Inv X pins σ H { s with heap:=h',toks:=t' }:=by
 have nit:∀ b u,H b=some u->b≠it:=fun b u e z=>by rw [z,hn] at e; cases e
 refine I.step (g':=s.gens) (d':=s.drawn) (ch:=[it]) (fun b hb=>?_) (fun b o _ _ hc e _=>k b o (fun z=>hc (by simp [z])) e) (fun b o _ _ hc e _=>⟨o.slots,k b o (fun z=>hc (by simp [z])) e⟩) (fun _ _ _ _ n=>n)
  (fun b o hc e=>⟨o,k b o (fun z=>hc (by simp [z])) e⟩) (fun _ _ e=>e) (fun _ _ _ e=>e) (fun b ps e=>⟨#[],by rw [e]; simp⟩) (fun m hm=>?_) (fun b u e=>?_) I.bare
 ·have e:b=it:=by simpa using hb
  subst e
  exact ⟨h1,hL,h2,h3⟩
 ·obtain ⟨o,es,ep,ho,r⟩:=hm
  exact ⟨o,es,ep,k _ o (BT hL) ho,r⟩
 ·refine (I.hok b u e).stay (fun c v hc q=>k c v ?_ q) (fun _ q=>q) fun _ _ q=>q
  rcases hc with z | z
  ·rw [z]; exact nit b u e
  ·exact nit c _ z
theorem Inv.tok (I:Inv X pins σ H s) (t:Nat):Inv X pins σ H { s with toks:=t }:=I.un (h':=s.heap) (t':=t) Un.refl I.hok
theorem Inv.kept {t':Nat} (I:Inv X pins σ H s) (k:∀ b u,s.heap.get? b=some u->h'.get? b=some u):Inv X pins σ H { s with heap:=h',toks:=t' }:=I.un (Un.kept k) (I.hok.kept k)
theorem Inv.laid {a:Addr} {o:HO} {t':Nat} (I:Inv X pins σ H s) (k:∀ b u,s.heap.get? b=some u->h'.get? b=some u) (hp:s.heap.objs.size<=a) (new:ObjOk X.prog X.w (upd H a o) h' a o) :
  Inv X pins σ (upd H a o) { s with heap:=h',toks:=t' }:=I.un (Un.laid k hp (I.hok.fresh hp)) (I.hok.laid k hp new)
theorem Inv.write {x e:Addr} {o:HO} {t':Nat} (I:Inv X pins σ H s) (mu:Mut (H x)) (he:e=x\/H e=some (.own x)) (k:∀ b u,b≠e->s.heap.get? b=some u->h'.get? b=some u) (heo:∃ u,h'.get? e=some u)
  (new:ObjOk X.prog X.w (upd H x o) h' x o):Inv X pins σ (upd H x o) { s with heap:=h',toks:=t' }:=I.un (Un.write mu he k heo) (I.hok.write mu he k heo new)
theorem Inv.pins_of {pins':List (Addr×Obj)} (I:Inv X pins σ H s) (h:∀ p∈pins',s.heap.get? p.1=some p.2/\H p.1=none/\p.1≠X.env.locals/\p.1 ∉ X.fs/\∀ v,p.2.data≠.cell v):Inv X pins' σ H s :=
 ⟨I.ok,I.os,I.bare,I.base,I.loc,I.cell,I.free,I.freeC,fun p hp=>(Bj.mp hp).elim (fun z=>I.pin p (CL _ z)) (h p),I.hok,I.len⟩
theorem aDX {N:List Str} (hN:N.Nodup) {i j:Nat} {x:Str} (a:N[i]?=some x) (b:N[j]?=some x):i=j:=by
 obtain ⟨h1,e1⟩:=Aq.mp a
 obtain ⟨h2,e2⟩:=Aq.mp b
 exact (List.getElem_inj hN).mp (e1.trans e2.symm)
theorem aEr {M:Ky} {A:AY} {E:Value->Ad->Prop} {i:Nat} {x:Str} {v:V} {u:Value} {Q:Unit->Ad->Prop} (I:Inv X pins σ H s) (hN:X.N.Nodup) (hi:X.N[i]?=some x) (hx:Loc X.env.scope x) (r:RelV v u)
  (h:∀ s',Inv X pins (σ.set i (some v)) H s'->(∃ a,Cc a s.heap s'.heap/\(a=X.env.locals\/X.env.cells.lookup x=some a))->Q () s') (hf:X.fn x=true\/X.env.scope.names.lookup x=some .local:=by first | exact .inl rfl | exact .inr rfl | assumption):Ar M A (storeName X.env x u) Q E s:=by
 obtain ⟨m,hn,hl⟩:=id I.loc
 have hcls:(X.env.scope.kind == .class || (X.env.scope.kind == .module && X.env.locals != X.env.globals))=false:=by rw [I.ok.kind]; rfl
 have hiσ:i < σ.length:=by rw [I.len]; exact (Aq.mp hi).1
 have cne:=I.cne
 have tracked:∀ {a:Addr} {h':Heap},(∃ o,s.heap.get? a=some o/\H a=none)->Cc a s.heap h'->HOk X.prog X.w H h':=fun {a h'} ha hs b ob e=>by
  obtain ⟨_,_,hfree⟩:=ha
  refine (I.hok b ob e).stay (fun c w' hc q=>(hs.2 c ?_).trans q) (fun _ q=>q) fun _ _ q=>q
  rintro rfl
  rcases hc with rfl | hc
  ·rw [hfree] at e; cases e
  ·rw [hfree] at hc; cases hc
 rcases hx with hk | hk
 ·refine wpAny_storeName_local hk hn (fun h' hn' hs=>?_) hcls
  obtain ⟨oL,_,_,hoL,_⟩:=id hn
  refine h _ ⟨I.ok,I.os,I.bare,⟨fun b o e n hb hx=>?_,fun b o e n hb hx=>?_,I.base.free,fun b o e hx=>?_,I.base.tups,I.base.frzs,I.base.tbls⟩,⟨_,hn',fun j y v' e1 e2 e3=>?_⟩,fun y c e=>?_,I.free,I.freeC,fun p hp=>?_,tracked ⟨oL,hoL,I.free⟩ hs,by simpa using I.len⟩ ⟨_,hs,.inl rfl⟩
  ·exact (hs.2 b (AC (Aw (Ap e) I.ok.above))).trans (I.base.keep b o e n hb hx)
  ·obtain ⟨sl,e1⟩:=I.base.slot b o e n hb hx
   exact ⟨sl,(hs.2 b (AC (Aw (Ap e) I.ok.above))).trans e1⟩
  ·obtain ⟨o',e1⟩:=I.base.there b o e hx
   exact ⟨o',(hs.2 b (AC (Aw (Ap e) I.ok.above))).trans e1⟩
  ·by_cases hj:j=i
   ·subst hj
    rw [hi] at e1; cases e1
    rw [IX hiσ] at e2
    cases e2
    exact ⟨u,r,.inl ⟨hk,by simp⟩⟩
   ·rw [JK (BT hj)] at e2
    obtain ⟨u',r',q⟩:=hl j y v' e1 e2 e3
    refine ⟨u',r',?_⟩
    rcases q with ⟨k,e⟩ | ⟨k,c,e,z⟩
    ·refine .inl ⟨k,?_⟩
     have:y≠x:=fun e=>hj (aDX hN e1 (e ▸ hi))
     simp [this,e]
    ·exact .inr ⟨k,c,e,z.sameBut hs (cne y c e)⟩
  ·obtain ⟨w',z⟩:=I.cell y c e
   exact ⟨w',z.sameBut hs (cne y c e)⟩
  ·obtain ⟨e,n,ne,nf,d⟩:=I.pin p hp
   exact ⟨(hs.2 p.1 ne).trans e,n,ne,nf,d⟩
 ·have hfn:X.fn x=true:=by
   rcases hf with z | z
   ·exact z
   ·rw [z] at hk; cases hk
  obtain ⟨c,hc⟩:=I.ok.has x (.inl hk)
  obtain ⟨w',z⟩:=I.cell x c hc
  refine wpAny_storeName_cell I.ok.kind hk hc z (fun h' hc' hs=>?_)
  obtain ⟨oc,hoc,hocd⟩:=id z
  refine h { s with heap:=h' } ⟨I.ok,I.os,I.bare,⟨fun b o e n hb hx=>?_,fun b o e n hb hx=>?_,I.base.free,fun b o e hx=>?_,I.base.tups,I.base.frzs,I.base.tbls⟩,⟨m,hn.sameBut hs (BT (cne x c hc)),fun j y v' e1 e2 e3=>?_⟩,fun y c' e=>?_,I.free,I.freeC,fun p hp=>?_,tracked ⟨oc,hoc,I.freeC x c hc⟩ hs,by simpa using I.len⟩ ⟨c,hs,.inr hc⟩
  ·exact (hs.2 b (AC (Aw (Ap e) (I.ok.cab x c hfn hc)))).trans (I.base.keep b o e n hb hx)
  ·obtain ⟨sl,e1⟩:=I.base.slot b o e n hb hx
   exact ⟨sl,(hs.2 b (AC (Aw (Ap e) (I.ok.cab x c hfn hc)))).trans e1⟩
  ·obtain ⟨o',e1⟩:=I.base.there b o e hx
   exact ⟨o',(hs.2 b (AC (Aw (Ap e) (I.ok.cab x c hfn hc)))).trans e1⟩
  ·by_cases hj:j=i
   ·subst hj
    rw [hi] at e1; cases e1
    rw [IX hiσ] at e2
    cases e2
    exact ⟨u,r,.inr ⟨.inl hk,c,hc,hc'⟩⟩
   ·rw [JK (BT hj)] at e2
    obtain ⟨u',r',q⟩:=hl j y v' e1 e2 e3
    refine ⟨u',r',?_⟩
    rcases q with q | ⟨k,c',e,z'⟩
    ·exact .inl q
    ·refine .inr ⟨k,c',e,z'.sameBut hs ?_⟩
     rintro rfl
     exact hj (aDX hN e1 (I.ok.inj _ _ _ e hc ▸ hi))
  ·by_cases hcc:c'=c
   ·subst hcc; exact ⟨_,hc'⟩
   ·obtain ⟨w2,z2⟩:=I.cell y c' e
    exact ⟨w2,z2.sameBut hs hcc⟩
  ·obtain ⟨e,n,ne,nf,d⟩:=I.pin p hp
   refine ⟨(hs.2 p.1 ?_).trans e,n,ne,nf,d⟩
   intro q
   rw [q,hoc] at e
   have q':oc=p.2:=Ck e
   exact d w' (by rw [<- q']; exact hocd)
theorem qi {M:Ky} {A:AY} {E:Value->Ad->Prop} {i:Nat} {x:Str} {v:V} {u:Value} {Q:Unit->Ad->Prop} (I:Inv X pins σ H s) (hN:X.N.Nodup) (hi:X.N[i]?=some x) (hx:Loc X.env.scope x) (r:RelV v u)
  (h:∀ s',Inv X pins (σ.set i (some v)) H s'->Q () s') (hf:X.fn x=true\/X.env.scope.names.lookup x=some .local:=by first | exact .inl rfl | exact .inr rfl | assumption):Ar M A (storeName X.env x u) Q E s :=
 aEr I hN hi hx r (fun s' I' _=>h s' I') hf
theorem Inv.call' {s':Ad} {ch:List Addr} (I:Inv X pins σ H s) (ho:s'.os=s.os) (u:Un (frs X.stack) ch H H' s.heap s'.heap) (hok:HOk X.prog X.w H' s'.heap) (hg:Ip s'.gens)
  (hch:∀ b∈ch,(b∈X.ex\/X.s₀.heap.objs.size<=b)/\b≠X.env.locals/\(∀ x c,X.env.cells.lookup x=some c->c≠b)/\∀ p∈X.pn++pins,p.1≠b):Inv X pins σ H' s':=by
 obtain ⟨h',g',d',t',o'⟩:=s'
 have e:o'=s.os:=ho
 subst e
 exact I.call (g':=g') (t':=t') (d':=d') u hok hg hch
end
noncomputable abbrev XK:=Value->Option Addr->Hp->Prop
noncomputable abbrev St:=List (Option V)
noncomputable abbrev VK:=V->Hp->Prop
noncomputable abbrev TE:=St->Hp->VK->Prop
noncomputable abbrev TT:=St->Hp->(Bool->Hp->Prop)->Prop
noncomputable abbrev TA:=St->Hp->(List V->Hp->Prop)->Prop
structure Ends where
 nx:St->Hp->Prop
 rt:VK
 bk:St->Hp->Prop:=fun _ _=>False
 ct:St->Hp->Prop:=fun _ _=>False
noncomputable abbrev TS:=Ends->St->Hp->Prop
noncomputable def EP (X:Cx) (pins:List (Addr×Obj)) (σ:St) (Q:VK) (u:Value) (s':Ad):Prop:=∃ v H',Inv X pins σ H' s'/\RelV v u/\Q v H'
noncomputable def TP (X:Cx) (pins:List (Addr×Obj)) (σ:St) (Q:Bool->Hp->Prop) (b:Bool) (s':Ad):Prop:=∃ H',Inv X pins σ H' s'/\Q b H'
noncomputable def AP (X:Cx) (pins:List (Addr×Obj)) (σ:St) (Q:List V->Hp->Prop) (us:List Value) (s':Ad):Prop:=∃ vs H',Inv X pins σ H' s'/\Vals vs us/\Q vs H'
noncomputable def SP (X:Cx) (pins:List (Addr×Obj)) (D:Ends) (f:Flow) (s':Ad):Prop :=
 match f with
 | .next=>∃ σ' H',Inv X pins σ' H' s'/\D.nx σ' H'
 | .brk=>∃ σ' H',Inv X pins σ' H' s'/\D.bk σ' H'
 | .cont=>∃ σ' H',Inv X pins σ' H' s'/\D.ct σ' H'
 | .ret u=>∃ v σ' H',Inv X pins σ' H' s'/\RelV v u/\D.rt v H'
noncomputable def PE (X:Cx) (e:Expr) (t:TE):Prop :=
 ∀ (pins:List (Addr×Obj)) (s:Ad) (σ:St) (H:Hp) (Q:VK),Inv X pins σ H s->t σ H Q->Ar (AB X.prog X.w) X.A (eval e X.env) (EP X pins σ Q) X.xe s
noncomputable def PT (X:Cx) (e:Expr) (t:TT):Prop :=
 ∀ (pins:List (Addr×Obj)) (s:Ad) (σ:St) (H:Hp) (Q:Bool->Hp->Prop),Inv X pins σ H s->t σ H Q->Ar (AB X.prog X.w) X.A (isTrue e X.env (eval e X.env)) (TP X pins σ Q) X.xe s
noncomputable def PW (X:Cx) (e:Expr) (t:TT):Prop :=
 ∀ (whole:Sem Value) (pins:List (Addr×Obj)) (s:Ad) (σ:St) (H:Hp) (Q:Bool->Hp->Prop),Inv X pins σ H s->t σ H Q->Ar (AB X.prog X.w) X.A (isTrue e X.env whole) (TP X pins σ Q) X.xe s
theorem PW.pt {X:Cx} {e:Expr} {t:TT} (h:PW X e t):PT X e t:=h _
noncomputable def PA (X:Cx) (es:List Expr) (t:TA):Prop :=
 ∀ (pos:Pos) (pins:List (Addr×Obj)) (s:Ad) (σ:St) (H:Hp) (Q:List V->Hp->Prop),Inv X pins σ H s->t σ H Q->Ar (AB X.prog X.w) X.A (spliced (Fe pos (AW es X.env))) (AP X pins σ Q) X.xe s
noncomputable def PS (X:Cx) (st:Stmt) (t:TS):Prop :=
 ∀ (pins:List (Addr×Obj)) (s:Ad) (σ:St) (H:Hp) (D:Ends),Inv X pins σ H s->t D σ H->Ar (AB X.prog X.w) X.A (exec st X.env) (SP X pins D) X.xe s
noncomputable def PSs (X:Cx) (st:List Stmt) (t:TS):Prop :=
 ∀ (pins:List (Addr×Obj)) (s:Ad) (σ:St) (H:Hp) (D:Ends),Inv X pins σ H s->t D σ H->Ar (AB X.prog X.w) X.A (execs st X.env) (SP X pins D) X.xe s
theorem thn {α:Type} {t:Sem α} {Q Q':α->Ad->Prop} {M:Ky} {A:AY} {E:Value->Ad->Prop} {s:Ad} (h:Ar M A t Q E s) (hQ:∀ a s,Q a s->Q' a s):Ar M A t Q' E s:=AT h hQ fun _ _ x=>x
section
variable {X:Cx}
noncomputable def tVar (i:Nat):TE:=fun σ H Q=>∃ v,σ[i]?=some (some v)/\Q v H
noncomputable def tC (v:V):TE:=fun _ H Q=>Q v H
theorem aJy {i:Nat} {x:Str} {pos:Pos} (hN:X.N[i]?=some x) (hv:Vis X.env.scope x) (hd:(x == ("__debug__":Str))=false:=by decide) (hcd:(x == ("__classdict__":Str))=false:=by decide):PE X (.Name x pos) (tVar i):=by
 intro pins s σ H Q I h
 obtain ⟨v,e,h⟩:=h
 obtain ⟨m,hn,hl⟩:=I.loc
 obtain ⟨u,r,l⟩:=hl i x v hN e hv
 have fin:EP X pins σ Q u s:=⟨v,H,I,r,h⟩
 rcases l with ⟨hk,hm⟩ | ⟨hk,c,hc,hcell⟩
 ·exact ME (wpAny_loadName_local I.ok.kind hk hn hm fin) hd
 ·rcases hk with hk | hk
  ·exact ME (wpAny_loadName_cell I.ok.kind hk hc hcell fin) hd
  ·exact ME (wpAny_loadName_free I.ok.kind hk hc hcell fin hcd) hd
theorem zM {i j pos}:PE X (.Constant (.int i) j pos) (tC (.int i)):=fun _ _ _ H _ I h=>Kz ⟨.int i,H,I.tok _,⟨_,rfl⟩,h⟩
theorem aA7 {b j pos}:PE X (.Constant (.bool b) j pos) (tC (.bl b)):=fun _ _ _ H _ I h=>Constant_bool ⟨.bl b,H,I,rfl,h⟩
theorem aEs {j pos}:PE X (.Constant .none j pos) (tC .non):=fun _ _ _ H _ I h=>Constant_none ⟨.non,H,I,rfl,h⟩
theorem aI1 {x j pos}:PE X (.Constant (.str x) j pos) (tC (.str x)):=fun _ _ _ H _ I h=>Calls.Constant_str ⟨.str x,H,I.tok _,⟨_,rfl⟩,h⟩
noncomputable def Gl (X:Cx) (x:Str):Prop:=X.env.kindOf x=some .globalImplicit
theorem ji {E:Value->Ad->Prop} {pins:List (Addr×Obj)} {s:Ad} {σ:St} {H:Hp} {x:Str} {u:Value} {pos:Pos} {Q:Value->Ad->Prop} (I:Inv X pins σ H s) (hg:Gl X x) (hm:X.mg x=some u) (h:Q u s)
  (hd:(x == ("__debug__":Str))=false:=by decide):Ar (AB X.prog X.w) X.A (eval (.Name x pos) X.env) Q E s :=
 GZ I.ok.kind hg (Calls.loadGlobal_global (by rw [I.ok.glob]; exact I.mod.glob.keeps I.bk) hm h) hd
theorem qT {E:Value->Ad->Prop} {pins:List (Addr×Obj)} {s:Ad} {σ:St} {H:Hp} {x:Str} {u:Value} {pos:Pos} {Q:Value->Ad->Prop} (I:Inv X pins σ H s) (hg:Gl X x) (hm:X.mg x=none) (hv:BW x=some u) (h:Q u s)
  (hn:x≠"__name__":=by decide) (hd:(x == ("__debug__":Str))=false:=by decide):Ar (AB X.prog X.w) X.A (eval (.Name x pos) X.env) Q E s:=by
 obtain ⟨mb,h1,h2⟩:=I.mod.blt
 exact GZ I.ok.kind hg (Calls.loadGlobal_builtin (by rw [I.ok.glob]; exact I.mod.glob.keeps I.bk) hm (by rw [I.ok.blt]; exact h1.keeps I.bk) ((h2 x hn).trans hv) h) hd
theorem aAG {x:Str} {v:V} {u:Value} {pos:Pos} (hg:Gl X x) (hm:X.mg x=some u) (r:RelV v u) (hd:(x == ("__debug__":Str))=false:=by decide):PE X (.Name x pos) (tC v) :=
 fun _ _ _ H _ I h=>ji I hg hm ⟨v,H,I,r,h⟩ hd
theorem aIe {x:Str} {v:V} {u:Value} {pos:Pos} (hg:Gl X x) (hm:X.mg x=none) (hv:BW x=some u) (r:RelV v u) (hn:x≠"__name__":=by decide) (hd:(x == ("__debug__":Str))=false:=by decide):PE X (.Name x pos) (tC v) :=
 fun _ _ _ H _ I h=>qT I hg hm hv ⟨v,H,I,r,h⟩ hn hd
variable {a b:Expr} {ta tb:TE} {pos:Pos}
noncomputable def tB (t:TE):TT:=fun σ H Q=>t σ H fun x H1=>∃ c,x=.bl c/\Q c H1
theorem aBv {e:Expr} {t:TE} (h:PE X e t) (he:∀ whole,isTrue e X.env whole=(do let v <- whole; Ft e.pos; Iq [v] (truthy v)):=by intro _; rfl):PT X e (tB t):=by
 intro pins s σ H Q I hw
 refine isTrue_plain (thn (h pins s σ H _ I hw) fun v s1 ⟨x,H1,I1,r1,q1⟩=>?_) (he _)
 obtain ⟨d,rfl,q⟩:=q1
 cases r1
 exact DI ⟨H1,I1,q⟩
variable {tA tB':TT} {rest:List Expr}
noncomputable def tAnd (t u:TT):TT:=fun σ H Q=>t σ H fun c H1=>if c=true then u σ H1 Q else Q false H1
noncomputable def tOr (t u:TT):TT:=fun σ H Q=>t σ H fun c H1=>if c=true then Q true H1 else u σ H1 Q
theorem aEt (ha:PT X a tA):PW X (.BoolOp .And [a] pos) tA:=by
 intro wh pins s σ H Q I h
 refine isTrue_and (thn (ha pins s σ H Q I h) fun c s1 e=>?_)
 cases c with
 | true=>exact isTrue_and_nil e
 | false=>exact e
theorem aJz (ha:PT X a tA):PW X (.BoolOp .Or [a] pos) tA:=by
 intro wh pins s σ H Q I h
 refine isTrue_or (thn (ha pins s σ H Q I h) fun c s1 e=>?_)
 cases c with
 | false=>exact isTrue_or_nil e
 | true=>exact e
theorem aEu (ha:PT X a tA) (hb:PW X (.BoolOp .And (b :: rest) pos) tB'):PW X (.BoolOp .And (a :: b :: rest) pos) (tAnd tA tB'):=by
 intro wh pins s σ H Q I h
 refine isTrue_and (thn (ha pins s σ H _ I h) fun c s1 ⟨H1,I1,q1⟩=>?_)
 cases c with
 | true=>exact hb wh pins s1 σ H1 Q I1 q1
 | false=>exact ⟨H1,I1,q1⟩
theorem aLM (ha:PT X a tA) (hb:PW X (.BoolOp .Or (b :: rest) pos) tB'):PW X (.BoolOp .Or (a :: b :: rest) pos) (tOr tA tB'):=by
 intro wh pins s σ H Q I h
 refine isTrue_or (thn (ha pins s σ H _ I h) fun c s1 ⟨H1,I1,q1⟩=>?_)
 cases c with
 | true=>exact ⟨H1,I1,q1⟩
 | false=>exact hb wh pins s1 σ H1 Q I1 q1
noncomputable def aLN (ta tb:TE):TE:=fun σ H Q=>ta σ H fun x H1=>∃ c,x=.bl c/\if c=true then tb σ H1 Q else Q (.bl false) H1
theorem aK0 {op} {t:TE} (h:PE X a t):PE X (.BoolOp op [a] pos) t:=fun pins s σ H Q I hw=>BoolOp_one (h pins s σ H Q I hw)
theorem aK1 (ha:PE X a ta) (hb:PE X (.BoolOp .And (b :: rest) pos) tb):PE X (.BoolOp .And (a :: b :: rest) pos) (aLN ta tb):=by
 intro pins s σ H Q I h
 refine BoolOp_and (thn (ha pins s σ H _ I h) fun v s1 ⟨x,H1,I1,r1,q1⟩=>?_)
 obtain ⟨c,rfl,q1⟩:=q1
 cases r1
 refine DI ?_
 cases c with
 | true=>exact hb pins s1 σ H1 Q I1 q1
 | false=>exact ⟨.bl false,H1,I1,rfl,q1⟩
noncomputable def tIf (t:TT) (ta tb:TE):TE:=fun σ H Q=>t σ H fun c H1=>if c=true then ta σ H1 Q else tb σ H1 Q
theorem aDY {c:Expr} (hc:PT X c tA) (ha:PE X a ta) (hb:PE X b tb):PE X (.IfExp c a b pos) (tIf tA ta tb):=by
 intro pins s σ H Q I h
 refine wpAny_IfExp (thn (hc pins s σ H _ I h) fun d s1 ⟨H1,I1,q1⟩=>?_)
 cases d with
 | true=>exact ha pins s1 σ H1 Q I1 q1
 | false=>exact hb pins s1 σ H1 Q I1 q1
end
noncomputable def SqL (K:Af) (H:Hp) (a:Addr) (xs:List V):Prop :=
 Rd H a (.lst xs) \/
  ∃ (o:Obj) (its:Array Value) (n:Nat),K.lookup a=some o/\o.cls=.type "list"/\o.dict=none/\o.data=.seq its n/\its.size<=sizeLine/\Vals xs its.toList
noncomputable def SqT (K:Af) (H:Hp) (a:Addr) (xs:List V):Prop :=
 Rd H a (.tup xs) \/
  ∃ (o:Obj) (its:Array Value) (n:Nat),K.lookup a=some o/\o.cls=.type "tuple"/\o.data=.seq its n/\its.size<=sizeLine/\Vals xs its.toList
noncomputable def absV:Value->Option V
 | .none=>some .non
 | .bool b=>some (.bl b)
 | .int i _=>some (.int i)
 | .str x _=>some (.str x)
 | .bytes b _=>some (.byt b)
 | .float b _=>some (.flt b)
 | .ref a=>some (.ref a)
 | .type n=>some (.ty n)
 | _=>none
theorem RelV.abs {x:V} {u:Value} (r:RelV x u):absV u=some x:=by
 cases x with
 | non=>cases r; rfl
 | bl _=>cases r; rfl
 | int _=>obtain ⟨t,rfl⟩:=r; rfl
 | str _=>obtain ⟨t,rfl⟩:=r; rfl
 | byt _=>obtain ⟨t,rfl⟩:=r; rfl
 | flt _=>obtain ⟨t,rfl⟩:=r; rfl
 | ref _=>cases r; rfl
 | ty _=>cases r; rfl
theorem RelV.inj {x y:V} {u:Value} (r:RelV x u) (q:RelV y u):x=y:=Ck (r.abs.symm.trans q.abs)
theorem Vals.inj:∀ {xs ys:List V} {us:List Value},Vals xs us->Vals ys us->xs=ys
 | _,_,_,.nil,.nil=>rfl
 | _,_,_,.cons r t,.cons r' t'=>by rw [r.inj r',Vals.inj t t']
section
variable {X:Cx} {pins:List (Addr×Obj)} {σ:St} {H:Hp} {s:Ad} {a:Addr} {xs ys:List V}
theorem SqL.of {K:Af} (h:H a=some (.lst xs)):SqL K H a xs:=.inl (.inl h)
theorem SqT.of {K:Af} (h:H a=some (.tup xs)):SqT K H a xs:=.inl (.inl h)
theorem Inv.list (I:Inv X pins σ H s) (h:SqL X.K H a xs):∃ its:List Value,Vals xs its/\PlainL s.heap a its.toArray/\xs.length<=sizeLine:=by
 rcases h with h | ⟨o,its,n,hk,hc,hd,hs,hz,r⟩
 ·obtain ⟨z,its,n,r,e⟩:=h.ok I.hok
  exact ⟨its,r,⟨_,n,e,rfl,rfl,rfl⟩,z⟩
 ·refine ⟨its.toList,r,⟨o,n,I.kIn a o hk,hc,hd,by simpa using hs⟩,?_⟩
  have e:=r.length
  simp only [Bt] at e
  lia
theorem Inv.tuple (I:Inv X pins σ H s) (h:SqT X.K H a xs):∃ its:List Value,Vals xs its/\IsTup s.heap a its.toArray/\xs.length<=sizeLine:=by
 rcases h with h | ⟨o,its,n,hk,hc,hs,hz,r⟩
 ·obtain ⟨z,its,r,p⟩:=h.ok I.hok
  exact ⟨its,r,p,z⟩
 ·refine ⟨its.toList,r,⟨o,I.kIn a o hk,hc,n,by simpa using hs⟩,?_⟩
  have e:=r.length
  simp only [Bt] at e
  lia
theorem Inv.list_inj (I:Inv X pins σ H s) (h:SqL X.K H a xs) (h':SqL X.K H a ys):xs=ys:=by
 obtain ⟨its,r,⟨o,n,e,_,_,d⟩,_⟩:=I.list h
 obtain ⟨its',r',⟨o',n',e',_,_,d'⟩,_⟩:=I.list h'
 rw [e] at e'; cases e'
 rw [d] at d'
 injection d' with d1 _
 have:its=its':=by simpa using congrArg Nk d1
 subst this
 exact r.inj r'
theorem Inv.tuple_inj (I:Inv X pins σ H s) (h:SqT X.K H a xs) (h':SqT X.K H a ys):xs=ys:=by
 obtain ⟨its,r,⟨o,e,_,n,d⟩,_⟩:=I.tuple h
 obtain ⟨its',r',⟨o',e',_,n',d'⟩,_⟩:=I.tuple h'
 rw [e] at e'; cases e'
 rw [d] at d'
 injection d' with d1 _
 have:its=its':=by simpa using congrArg Nk d1
 subst this
 exact r.inj r'
end
noncomputable abbrev Cx.wish (X:Cx) (E:Value->Ad->Prop):Cx:={ X with xe:=E }
noncomputable abbrev Cx.nox (X:Cx):Cx:=X.wish fun _ _=>False
theorem Cx.Ok.wish {X:Cx} (ok:X.Ok) (E:Value->Ad->Prop):(X.wish E).Ok :=
 ⟨ok.mod,ok.kind,ok.glob,ok.blt,ok.above,ok.inj,ok.has,ok.cab,ok.hd,ok.frames,ok.stk,ok.exf,ok.bs,ok.bsz,ok.noex,ok.exfs,ok.funs,ok.frf⟩
theorem Cx.Ok.unwish {X:Cx} {E:Value->Ad->Prop} (ok:(X.wish E).Ok):X.Ok :=
 ⟨ok.mod,ok.kind,ok.glob,ok.blt,ok.above,ok.inj,ok.has,ok.cab,ok.hd,ok.frames,ok.stk,ok.exf,ok.bs,ok.bsz,ok.noex,ok.exfs,ok.funs,ok.frf⟩
section
variable {X:Cx} {pins:List (Addr×Obj)} {σ:St} {H:Hp} {s:Ad} {E:Value->Ad->Prop}
theorem Inv.wish (I:Inv X pins σ H s) (E:Value->Ad->Prop):Inv (X.wish E) pins σ H s:=⟨I.ok.wish E,I.os,I.bare,I.base,I.loc,I.cell,I.free,I.freeC,I.pin,I.hok,I.len⟩
theorem Inv.unwish (I:Inv (X.wish E) pins σ H s):Inv X pins σ H s:=⟨I.ok.unwish,I.os,I.bare,I.base,I.loc,I.cell,I.free,I.freeC,I.pin,I.hok,I.len⟩
theorem SP.unwish {D:Ends} {f:Flow} {s':Ad} (h:SP (X.wish E) pins D f s'):SP X pins D f s':=by
 cases f with
 | next=>obtain ⟨σ',H',I,q⟩:=h; exact ⟨σ',H',I.unwish,q⟩
 | brk=>obtain ⟨σ',H',I,q⟩:=h; exact ⟨σ',H',I.unwish,q⟩
 | cont=>obtain ⟨σ',H',I,q⟩:=h; exact ⟨σ',H',I.unwish,q⟩
 | ret u=>obtain ⟨v,σ',H',I,r,q⟩:=h; exact ⟨v,σ',H',I.unwish,r,q⟩
theorem PSs.nox {st:List Stmt} {t:TS} (h:PSs X.nox st t):PSs X st t:=fun pins s σ H D I hw =>
 AT (h pins s σ H D (I.wish _) hw) (fun _ _ q=>q.unwish) fun _ _ z=>Dz z
end
section
variable {X:Cx} {st:Stmt} {rest:List Stmt} {t u:TS} {e:Expr} {te:TE} {pos:Pos}
noncomputable def aK2:TS:=fun D σ H=>D.nx σ H
noncomputable def tSeq (t u:TS):TS:=fun D σ H=>t { D with nx:=u D } σ H
theorem yC:PSs X [] aK2:=fun _ _ σ H _ I h=>FG ⟨σ,H,I,h⟩
theorem zF (h1:PS X st t) (h2:PSs X rest u):PSs X (st :: rest) (tSeq t u):=by
 intro pins s σ H D I h
 refine LP (thn (h1 pins s σ H { D with nx:=u D } I h) fun f s1 q=>?_)
 cases f with
 | next =>
  obtain ⟨σ',H',I',q⟩:=q
  exact h2 pins s1 σ' H' D I' q
 | ret v=>exact q
 | brk=>exact q
 | cont=>exact q
theorem zI (h1:PS X st t):PSs X [st] t:=by
 intro pins s σ H D I h
 refine LP (thn (h1 pins s σ H D I h) fun f s1 q=>?_)
 cases f with
 | next=>exact FG q
 | ret v=>exact q
 | brk=>exact q
 | cont=>exact q
noncomputable def aLO:TS:=fun D σ H=>D.ct σ H
theorem aCj:PS X (.Continue pos) aLO:=fun _ _ σ H _ I h=>wpAny_Continue ⟨σ,H,I,h⟩
theorem Inv.quiet {pins:List (Addr×Obj)} {σ:St} {H:Hp} {s:Ad} (I:Inv X pins σ H s):interactive X.env=false:=by simp [interactive,I.ok.kind]
noncomputable def aLP (te:TE):TS:=fun D σ H=>te σ H fun _ H1=>D.nx σ H1
theorem yJ (he:PE X e te) (hs:GK e none pos.line X.env=pure false:=by rfl):PS X (.Expr e pos) (aLP te):=by
 intro pins s σ H D I h
 exact wpAny_Expr_any (thn (he pins s σ H _ I h) fun v s1 ⟨x,H1,I1,r1,q1⟩=>⟨σ,H1,I1,q1⟩) I.quiet hs
noncomputable def tRet (te:TE):TS:=fun D σ H=>te σ H D.rt
theorem zV (he:PE X e te):PS X (.Return (some e) pos) (tRet te):=by
 intro pins s σ H D I h
 exact wpAny_Return_some (thn (he pins s σ H _ I h) fun v s1 ⟨x,H1,I1,r1,q1⟩=>⟨x,σ,H1,I1,r1,q1⟩)
noncomputable def tIfS (c:TT) (t u:TS):TS:=fun D σ H=>c σ H fun b H1=>if b=true then t D σ H1 else u D σ H1
theorem qw {c:Expr} {a b:List Stmt} {tc:TT} (hc:PT X c tc) (ha:PSs X a t) (hb:PSs X b u):PS X (.If c a b pos) (tIfS tc t u):=by
 intro pins s σ H D I h
 refine wpAny_If (thn (hc pins s σ H _ I h) fun d s1 ⟨H1,I1,q1⟩=>?_)
 cases d with
 | true=>exact ha pins s1 σ H1 D I1 q1
 | false=>exact hb pins s1 σ H1 D I1 q1
end
noncomputable abbrev TG:=V->St->Hp->(St->Hp->Prop)->Prop
noncomputable abbrev TGs:=List V->St->Hp->(St->Hp->Prop)->Prop
noncomputable def PG (X:Cx) (target:Expr) (t:TG):Prop :=
 ∀ (pins:List (Addr×Obj)) (s:Ad) (σ:St) (H:Hp) (v:V) (u:Value) (Q:St->Hp->Prop),Inv X pins σ H s->RelV v u->t v σ H Q ->
  Ar (AB X.prog X.w) X.A (HU target X.env u) (fun _ s'=>∃ σ' H',Inv X pins σ' H' s'/\Q σ' H') X.xe s
noncomputable def PGs (X:Cx) (ts:List Expr) (t:TGs):Prop :=
 ∀ (pins:List (Addr×Obj)) (s:Ad) (σ:St) (H:Hp) (vs:List V) (us:List Value) (Q:St->Hp->Prop),Inv X pins σ H s->Vals vs us->t vs σ H Q ->
  Ar (AB X.prog X.w) X.A (KA ((HV ts X.env).map (·.2)) us) (fun _ s'=>∃ σ' H',Inv X pins σ' H' s'/\Q σ' H') X.xe s
section
variable {X:Cx} {pos:Pos}
noncomputable def aBC (i:Nat):TG:=fun v σ H Q=>Q (σ.set i (some v)) H
theorem zK {i:Nat} {x:Str} (hN:X.N.Nodup) (hi:X.N[i]?=some x) (hx:Loc X.env.scope x) (hf:X.fn x=true\/X.env.scope.names.lookup x=some .local:=by first | exact .inl rfl | exact .inr rfl | assumption):PG X (.Name x pos) (aBC i):=by
 intro pins s σ H v u Q I r h
 exact wpAny_assign_Name (qi I hN hi hx r (fun s' I'=>⟨_,H,I',h⟩) hf)
noncomputable def gNil:TGs:=fun vs σ H Q=>vs=[]/\Q σ H
noncomputable def aLQ (t:TG) (u:TGs):TGs:=fun vs σ H Q=>∃ v r,vs=v :: r/\t v σ H fun σ' H'=>u r σ' H' Q
theorem yK:PGs X [] gNil:=by
 intro pins s σ H vs us Q I r h
 obtain ⟨e,h⟩:=h
 subst e
 cases r
 exact Lf ⟨σ,H,I,h⟩
theorem zP {e:Expr} {es:List Expr} {t:TG} {u:TGs} (h1:PG X e t) (h2:PGs X es u)
  (hs:(HV (e :: es) X.env).map (·.2)=HU e X.env :: (HV es X.env).map (·.2):=by rfl):PGs X (e :: es) (aLQ t u):=by
 intro pins s σ H vs us Q I r h
 obtain ⟨v,vr,e1,h⟩:=h
 subst e1
 cases r with
 | cons r rr =>
  rw [hs]
  refine Hi (thn (h1 pins s σ H _ _ _ I r h) fun _ s1 ⟨σ1,H1,I1,q1⟩=>?_)
  exact h2 pins s1 σ1 H1 _ _ Q I1 rr q1
noncomputable def gTup (K:Af) (n:Nat) (t:TGs):TG:=fun v σ H Q=>∃ a xs,v=.ref a/\SqT K H a xs/\xs.length=n/\t xs σ H Q
theorem qA {es:List Expr} {k:Nat} {t:TGs} {n:Nat} (hc:X.calm=true) (h:PGs X es t)
  (hn:(HV es X.env).length=n:=by rfl) (hst:(HV es X.env).findIdx? (·.1)=none:=by rfl):PG X (.Tuple es k pos) (gTup X.K n t):=by
 intro pins s σ H v u Q I r hw
 obtain ⟨a,xs,e1,hq,hl,hw⟩:=hw
 subst e1
 cases r
 obtain ⟨its,rv,ht,hz⟩:=I.tuple hq
 refine assign_Tuple_tuple (I.ok.hd hc) ht (by simp [hn,<- hl,rv.length]) hst fun h' hx=>?_
 have I1:Inv X pins σ H { s with heap:=h' }:=I.kept (t':=s.toks) fun b o e=>hx b o (AC (Ap e)) e
 exact h pins _ σ H xs _ Q I1 (by simpa using rv) hw
noncomputable def tAsg (te:TE) (g:TG):TS:=fun D σ H=>te σ H fun x H1=>g x σ H1 D.nx
theorem aEv {tg e:Expr} {te:TE} {g:TG} (he:PE X e te) (hg:PG X tg g) (hs:swapsWithSole [tg] e pos.line X.env=pure false:=by rfl) (hw:swappedStores [tg] e X.env=pure none:=by rfl)
  (h1:(HV [tg] X.env).map (·.2)=[HU tg X.env]:=by rfl):PS X (.Assign [tg] e pos) (tAsg te g):=by
 intro pins s σ H D I h
 refine wpAny_Assign_stores (thn (he pins s σ H _ I h) fun v s1 ⟨x,H1,I1,r1,q1⟩=>?_) hs hw
 rw [h1]
 exact thn (hg pins s1 σ H1 x v _ I1 r1 q1) fun _ s2 q=>q
theorem zS {i:Nat} {x:Str} {e:Expr} {te:TE} {pos':Pos} (hN:X.N.Nodup) (hi:X.N[i]?=some x) (hx:Loc X.env.scope x) (he:PE X e te) (hs:GK e (some (.Name x pos')) pos.line X.env=pure false:=by rfl) (hf:X.fn x=true\/X.env.scope.names.lookup x=some .local:=by first | exact .inl rfl | exact .inr rfl | assumption) :
  PS X (.Assign [.Name x pos'] e pos) (tAsg te (aBC i)):=by
 intro pins s σ H D I h
 refine wpAny_Assign_Name (thn (he pins s σ H _ I h) fun v s1 ⟨y,H1,I1,r1,q1⟩=>?_) hs
 exact qi I1 hN hi hx r1 (fun s2 I2=>⟨_,H1,I2,q1⟩) hf
noncomputable def tPar (i j:Nat) (ta:TA):TS:=fun D σ H=>ta σ H fun vs H1=>∃ v w,vs=[v,w]/\D.nx ((σ.set i (some v)).set j (some w)) H1
theorem aK3 {i j:Nat} {x y:Str} {a b:Expr} {ta:TA} {px py pt:Pos} {kt k2 pt2} (hc:X.calm=true) (hN:X.N.Nodup) (hi:X.N[i]?=some x) (hj:X.N[j]?=some y) (hij:i≠j)
  (hx:X.env.scope.names.lookup x=some .local) (hy:X.env.scope.names.lookup y=some .local) (ha:PA X [a,b] ta)
  (hw:swappedStores [.Tuple [.Name x px,.Name y py] kt pt] (.Tuple [a,b] k2 pt2) X.env=pure (some [x,y]))
  (hs:swapsWithSole [.Tuple [.Name x px,.Name y py] kt pt] (.Tuple [a,b] k2 pt2) pos.line X.env=pure false:=by rfl) :
  PS X (.Assign [.Tuple [.Name x px,.Name y py] kt pt] (.Tuple [a,b] k2 pt2) pos) (tPar i j ta):=by
 intro pins s σ H D I h
 rw [exec_Assign_arm]
 refine Aa (BG ?_)
 rw [hs]
 refine Aa (Ab ?_)
 rw [if_neg (by decide)]
 refine Aa (Tuple_ (thn (ha _ pins s σ H _ I h) fun us s1 ⟨vs,H1,I1,r1,q1⟩=>?_))
 obtain ⟨v,w,e1,q1⟩:=q1
 subst e1
 obtain ⟨u1,u2,rfl,rv,rw'⟩:∃ u1 u2,us=[u1,u2]/\RelV v u1/\RelV w u2:=by
  cases r1 with
  | cons p q =>
   cases q with
   | cons p' q' =>
    cases q'
    exact ⟨_,_,rfl,p,p'⟩
 refine Bd ?_ (by show 2<=sizeLine; decide)
 have I2:Inv X pins σ H1 { s1 with heap:=s1.heap.push { cls:=.type "tuple",data:=.seq [u1,u2].toArray } }:=I1.kept (t':=s1.toks) fun b o e=>Ac _ e
 rw [hw]
 refine Aa (Ab ?_)
 show Ar (AB X.prog X.w) X.A (do rule "assign.swapped-stores"; let items <- unpackItems (.ref s1.heap.objs.size) 2 none; KA [fun v=>MN X.env y v,fun v=>MN X.env x v] items.reverse; pure Flow.next) _ _ _
 refine Aa (CK (Aa (unpackItems_tuple (items:=#[u1,u2]) (I.ok.hd hc) (KB s1.heap _) fun h' hx'=>?_)))
 have I3:=I2.kept (h':=h') (t':=s1.toks) fun b o e=>hx' b o (AC (Ap e)) e
 show Ar _ _ (KA [fun v=>MN X.env y v,fun v=>MN X.env x v] [u2,u1] >>= fun _=>pure Flow.next) _ _ _
 refine Aa (Hi (Hv (qi I3 hN hj (.inl hy) rw' (fun s2 I4=>?_) (.inr hy))))
 refine Hi (Hv (qi I4 hN hi (.inl hx) rv (fun s3 I5=>Lf (Ab ?_)) (.inr hx)))
 rw [List.set_comm _ _ (BT hij)] at I5
 exact ⟨_,H1,I5,q1⟩
noncomputable def aK4 (c:TT) (tb:TS):TS:=fun D σ H=>∃ W:Nat->St->Hp->Prop,(∃ m,W m σ H)/\∀ m σ H,W m σ H ->
 c σ H fun b H1=>if b=true then ∃ N:St->Hp->Prop,(∀ σ' H',N σ' H'->∃ m',m' < m/\W m' σ' H')/\tb { D with nx:=N,ct:=N,bk:=D.nx } σ H1 else D.nx σ H1
theorem aH8 {c:Expr} {body:List Stmt} {tc:TT} {tb:TS} (hp:PassesOwn (AB X.prog X.w) X.A X.env X.xe) (hc:PT X c tc) (hb:PSs X body tb):PS X (.While c body [] pos) (aK4 tc tb):=by
 intro pins s σ H D I h
 obtain ⟨W,⟨m0,w0⟩,turn⟩:=h
 refine wpAny_While (codeAny_whileLoop (fun n s'=>∃ σ' H',Inv X pins σ' H' s'/\W n σ' H') ?_ m0 ⟨σ,H,I,w0⟩)
 rintro n s1 ⟨σ1,H1,I1,w1⟩
 refine Ek hp (thn (hc pins s1 σ1 H1 _ I1 (turn n σ1 H1 w1)) fun b s2 ⟨H2,I2,q2⟩=>?_)
 cases b with
 | true =>
  obtain ⟨N,hN,q2⟩:=q2
  rw [if_pos rfl]
  refine Ek hp (thn (hb pins s2 σ1 H2 _ I2 q2) fun f s3 q3=>?_)
  cases f with
  | next =>
   obtain ⟨σ3,H3,I3,n3⟩:=q3
   obtain ⟨m',hm,w3⟩:=hN σ3 H3 n3
   exact ⟨m',hm,σ3,H3,I3,w3⟩
  | cont =>
   obtain ⟨σ3,H3,I3,n3⟩:=q3
   obtain ⟨m',hm,w3⟩:=hN σ3 H3 n3
   exact ⟨m',hm,σ3,H3,I3,w3⟩
  | brk=>exact q3
  | ret v=>exact q3
 | false =>
  rw [if_neg Av]
  exact FG ⟨σ1,H2,I2,q2⟩
end
structure It where
 go:Nat->Hp->Prop
 yld:Nat->Hp->V->Hp->Prop
 stop:Nat->Hp->Prop
noncomputable def FpOk (X:Cx) (pins:List (Addr×Obj)) (H:Hp) (b:Addr):Prop :=
 H b=none/\b≠X.env.locals/\b ∉ X.fs/\(b∈X.ex\/X.s₀.heap.objs.size<=b)/\(∀ x c,X.env.cells.lookup x=some c->c≠b)/\∀ p∈X.pn++pins,p.1≠b
theorem Inv.fpOk {X:Cx} {pins:List (Addr×Obj)} {σ:St} {H H':Hp} {s:Ad} {b:Addr} (I:Inv X pins σ H s) (hb:s.heap.objs.size<=b) (hn:H' b=none):FpOk X pins H' b:=by
 refine ⟨hn,Cd (Aw I.lt hb),I.nofs hb,.inr (Ay I.sz hb),fun x c e z=>?_,fun p hp z=>?_⟩
 ·obtain ⟨v,q⟩:=I.cell x c e
  exact absurd (Aw q.lt (by rw [z]; exact hb)) (BC _)
 ·exact absurd (Aw (Ap (I.pin p hp).1) (by rw [z]; exact hb)) (BC _)
structure Turn (P:At) (w:AV) (K:Af) (tg:Expr) (J:It) (fp:List Addr) (it:Addr) (tn:Nat->Heap->Prop):Prop where
 mem:it∈fp
 obj:∀ i h,tn i h->∀ b∈fp,∃ o,h.get? b=some o/\∀ v,o.data≠.cell v
 keep:∀ i h h',tn i h->(∀ b∈fp,∀ o,h.get? b=some o->h'.get? b=some o)->tn i h'
 item:∀ (X:Cx),X.prog=P->X.w=w->X.K=K->X.calm=true->∀ (i:Nat) (pins:List (Addr×Obj)) (s:Ad) (σ:St) (H:Hp) (E:Value->Ad->Prop),Inv X pins σ H s->(∀ b∈fp,FpOk X pins H b)->tn i s.heap->J.go i H ->
  Ar (AB P w) X.A (Dq (.ref it)) (fun r s1=>∃ u,r=some u /\
   Ar (AB P w) X.A (Cy tg (.ref it) u) (fun _ s2=>∃ x H',Inv X pins σ H' s2/\RelV x u/\J.yld i H x H'/\tn (i + 1) s2.heap/\∀ b∈fp,H' b=none) E s1) E s
 done:∀ (X:Cx),X.prog=P->X.w=w->X.K=K->X.calm=true->∀ (i:Nat) (pins:List (Addr×Obj)) (s:Ad) (σ:St) (H:Hp) (E:Value->Ad->Prop),Inv X pins σ H s->(∀ b∈fp,FpOk X pins H b)->tn i s.heap->J.stop i H ->
  Ar (AB P w) X.A (Dq (.ref it)) (fun r s1=>r=none/\Inv X pins σ H s1) E s
 self:∀ (A:AY) (i:Nat) (s:Ad) (Q:Value->Ad->Prop) (E:Value->Ad->Prop),tn i s.heap->Q (.ref it) s->Ar (AB P w) A (FH (.ref it)) Q E s
noncomputable abbrev TI:=St->Hp->(It->Hp->Prop)->Prop
noncomputable def PIE (X:Cx) (pins:List (Addr×Obj)) (σ:St) (tg:Expr) (R:It->Hp->Prop) (itv:Value) (s2:Ad):Prop :=
 ∃ (it:Addr) (fp:List Addr) (tn:Nat->Heap->Prop) (J:It) (H':Hp),itv=.ref it/\Inv X pins σ H' s2/\Turn X.prog X.w X.K tg J fp it tn/\tn 0 s2.heap/\(∀ b∈fp,FpOk X pins H' b)/\R J H'
noncomputable def PI (X:Cx) (tg iter:Expr) (wi:TI):Prop :=
 ∀ (pins:List (Addr×Obj)) (s:Ad) (σ:St) (H:Hp) (R:It->Hp->Prop),Inv X pins σ H s->wi σ H R ->
  Ar (AB X.prog X.w) X.A (eval iter X.env) (fun v s1=>Ar (AB X.prog X.w) X.A (FH v) (PIE X pins σ tg R) X.xe s1) X.xe s
theorem aCk {M:Ky} {A:AY} {E:Value->Ad->Prop} {s:Ad} {tg:Expr} {it:Addr} {u:Value} {o:Obj} {n:String} {vs:Array Value} {Q:Unit->Ad->Prop} (ho:s.heap.get? it=some o) (hc:o.cls=.type n) (hd:o.data=.fields vs)
    (hn:["enumerate","zip","dict_itemiterator","dict_reverseitemiterator","odict_iterator","itertools.zip_longest","itertools.pairwise"].contains n=false) (hQ:Q () s):Ar M A (Cy tg (.ref it) u) Q E s:=by
  unfold Cy
  cases tg <;> first
    | exact Ab hQ
    | (cases u <;> first
        | exact Ab hQ
        | (refine Aa (JG ho ?_)
           rw [hc,hd]
           show Ar M A (if (["enumerate","zip","dict_itemiterator","dict_reverseitemiterator","odict_iterator","itertools.zip_longest","itertools.pairwise"].contains n && vs[0]? == some (Dr _))=true then _ else _) Q E s
           rw [if_neg (by intro h; rw [hn,Bool.false_and] at h; cases h)]
           exact Ab hQ))
noncomputable def Itl (K:Af) (a:Addr):It :=
 ⟨fun i H=>∃ xs x,SqL K H a xs/\xs[i]?=some x,fun i H x H'=>H'=H/\∀ xs,SqL K H a xs->xs[i]?=some x,fun i H=>∃ xs,SqL K H a xs/\xs.length<=i⟩
noncomputable def Itt (K:Af) (a:Addr):It :=
 ⟨fun i H=>∃ xs x,SqT K H a xs/\xs[i]?=some x,fun i H x H'=>H'=H/\∀ xs,SqT K H a xs->xs[i]?=some x,fun i H=>∃ xs,SqT K H a xs/\xs.length<=i⟩
noncomputable def Itr (lo:Int) (n:Nat):It:=⟨fun i _=>i < n,fun i H x H'=>H'=H/\x=.int (lo + i),fun i _=>n<=i⟩
theorem aEw {P:At} {w:AV} {K:Af} {tg:Expr} (a it:Addr):Turn P w K tg (Itl K a) [it] it (fun i h=>h.IsListIter it a i) where
 mem:=by simp
 obj:=fun i h st b hb=>by
  have e:b=it:=by simpa using hb
  subst e
  obtain ⟨o,e,c,d⟩:=st
  exact ⟨o,e,fun v z=>by rw [d] at z; cases z⟩
 keep:=fun i h h' st k=>st.at fun o e=>k it (by simp) o e
 item:=by
  intro X hP hw hK hc i pins s σ H E I hf st hg
  subst hP hw hK
  obtain ⟨xs,x,hq,hx⟩:=hg
  obtain ⟨its,rv,p,hz⟩:=I.list hq
  obtain ⟨u,hu,ru⟩:=rv.get hx
  obtain ⟨f0,f1,f2,f3,f4,f5⟩:=hf it (by simp)
  refine wpAny_pyNext_list_item st p.isList (x:=u) (by simpa using hu) fun h' st' sb=>?_
  have I1:Inv X pins σ H { s with heap:=h' }:=I.turned (t':=s.toks) (fun b o hb e=>(sb.2 b hb).trans e) f0 f1 f3 f4 f5
  obtain ⟨o,e,c,d⟩:=id st'
  exact ⟨u,rfl,aCk (s:={ s with heap:=h' }) e c d (by decide) ⟨x,H,I1,ru,⟨rfl,fun ys hy=>by rw [I.list_inj hy hq]; exact hx⟩,st',fun b hb=>(hf b hb).1⟩⟩
 done:=by
  intro X hP hw hK hc i pins s σ H E I hf st hg
  subst hP hw hK
  obtain ⟨xs,hq,hx⟩:=hg
  obtain ⟨its,rv,p,hz⟩:=I.list hq
  obtain ⟨f0,f1,f2,f3,f4,f5⟩:=hf it (by simp)
  have hl:=rv.length
  exact wpAny_pyNext_list_end (I.ok.hd hc) st p.isList (by simp; lia) fun h' eb=>⟨rfl,I.turned (t':=s.toks) (fun b o hb e=>eb b o hb e) f0 f1 f3 f4 f5⟩
 self:=fun _ _ _ _ _ st h=>wpAny_pyIter_listiter st h
theorem aEH {P:At} {w:AV} {K:Af} {tg:Expr} (a it:Addr):Turn P w K tg (Itt K a) [it] it (fun i h=>h.IsTupleIter it a i) where
 mem:=by simp
 obj:=fun i h st b hb=>by
  have e:b=it:=by simpa using hb
  subst e
  obtain ⟨o,e,c,d⟩:=st
  exact ⟨o,e,fun v z=>by rw [d] at z; cases z⟩
 keep:=fun i h h' st k=>st.at fun o e=>k it (by simp) o e
 item:=by
  intro X hP hw hK hc i pins s σ H E I hf st hg
  subst hP hw hK
  obtain ⟨xs,x,hq,hx⟩:=hg
  obtain ⟨its,rv,p,hz⟩:=I.tuple hq
  obtain ⟨u,hu,ru⟩:=rv.get hx
  obtain ⟨f0,f1,f2,f3,f4,f5⟩:=hf it (by simp)
  refine wpAny_pyNext_tuple_item st (show s.heap.IsTuple a its.toArray from p) (x:=u) (by simpa using hu) fun h' st' sb=>?_
  have I1:Inv X pins σ H { s with heap:=h' }:=I.turned (t':=s.toks) (fun b o hb e=>(sb.2 b hb).trans e) f0 f1 f3 f4 f5
  obtain ⟨o,e,c,d⟩:=id st'
  exact ⟨u,rfl,aCk (s:={ s with heap:=h' }) e c d (by decide) ⟨x,H,I1,ru,⟨rfl,fun ys hy=>by rw [I.tuple_inj hy hq]; exact hx⟩,st',fun b hb=>(hf b hb).1⟩⟩
 done:=by
  intro X hP hw hK hc i pins s σ H E I hf st hg
  subst hP hw hK
  obtain ⟨xs,hq,hx⟩:=hg
  obtain ⟨its,rv,p,hz⟩:=I.tuple hq
  obtain ⟨f0,f1,f2,f3,f4,f5⟩:=hf it (by simp)
  have hl:=rv.length
  exact wpAny_pyNext_tuple_end (I.ok.hd hc) st (show s.heap.IsTuple a its.toArray from p) (by simp; lia) fun h' eb=>⟨rfl,I.turned (t':=s.toks) (fun b o hb e=>eb b o hb e) f0 f1 f3 f4 f5⟩
 self:=fun _ _ _ _ _ st h=>wpAny_pyIter_tupleiter st h
theorem aEI {P:At} {w:AV} {K:Af} {tg:Expr} (it:Addr) (lo:Int) (n:Nat):Turn P w K tg (Itr lo n) [it] it (fun i h=>IsRangeIter h it (lo + (i:Nat) * 1) ((n:Int) - (i:Nat)) 1) where
 mem:=by simp
 obj:=fun i h st b hb=>by
  have e:b=it:=by simpa using hb
  subst e
  exact ⟨_,st,fun v z=>by
   have z':Data.fields _=Data.cell v:=z
   cases z'⟩
 keep:=fun i h h' st k=>k it (by simp) _ st
 item:=by
  intro X hP hw hK hc i pins s σ H E I hf st hg
  subst hP hw hK
  obtain ⟨f0,f1,f2,f3,f4,f5⟩:=hf it (by simp)
  have W:=Walks.range (prog:=X.prog) (w:=X.w) (I.ok.hd hc) it lo 1 n
  refine W.item i s _ _ hg st fun v h' tk hv st' kk=>?_
  obtain ⟨t,rfl⟩:=hv
  have I1:Inv X pins σ H { s with heap:=h',toks:=tk }:=I.turned (fun b o hb e=>kk b o (by simpa using hb) e) f0 f1 f3 f4 f5
  refine ⟨_,rfl,aCk (s:={ s with heap:=h',toks:=tk }) (n:="range_iterator") st' rfl rfl (by decide) ⟨.int (lo + i),H,I1,⟨t,?_⟩,⟨rfl,rfl⟩,st',fun b hb=>(hf b hb).1⟩⟩
  rw [Int.mul_one]
 done:=by
  intro X hP hw hK hc i pins s σ H E I hf st hg
  subst hP hw hK
  obtain ⟨f0,f1,f2,f3,f4,f5⟩:=hf it (by simp)
  exact wpAny_pyNext_range_end (I.ok.hd hc) st (by have:n<=i:=hg; lia) fun h' eb=>⟨rfl,I.turned (t':=s.toks) (fun b o hb e=>eb b o hb e) f0 f1 f3 f4 f5⟩
 self:=fun _ _ _ _ _ st h=>wpAny_pyIter_rangeiter st h
section
variable {X:Cx} {tg:Expr}
noncomputable def aLR (K:Af) (tl:TE):TI:=fun σ H R=>tl σ H fun x H1=>∃ a,x=.ref a/\(∃ xs,SqL K H1 a xs)/\R (Itl K a) H1
noncomputable def iTup (K:Af) (tl:TE):TI:=fun σ H R=>tl σ H fun x H1=>∃ a,x=.ref a/\(∃ xs,SqT K H1 a xs)/\R (Itt K a) H1
theorem zr {l:Expr} {tl:TE} (hl:PE X l tl):PI X tg l (aLR X.K tl):=by
 intro pins s σ H R I h
 refine thn (hl pins s σ H _ I h) fun v s1 ⟨x,H1,I1,r1,q1⟩=>?_
 obtain ⟨a,e,⟨xs,hq⟩,q⟩:=q1
 subst e
 cases r1
 obtain ⟨its,rv,p,hz⟩:=I1.list hq
 refine HW p.isList ?_
 refine ⟨s1.heap.objs.size,[s1.heap.objs.size],_,_,H1,rfl,I1.kept (t':=s1.toks) fun b o e=>Ac _ e,aEw a _,⟨_,Ag _ rfl,rfl,rfl⟩,fun b hb=>?_,q⟩
 have e:b=s1.heap.objs.size:=by simpa using hb
 subst e
 exact I1.fpOk (Ak _) (I1.hok.fresh (Ak _))
theorem aAH {l:Expr} {tl:TE} (hl:PE X l tl):PI X tg l (iTup X.K tl):=by
 intro pins s σ H R I h
 refine thn (hl pins s σ H _ I h) fun v s1 ⟨x,H1,I1,r1,q1⟩=>?_
 obtain ⟨a,e,⟨xs,hq⟩,q⟩:=q1
 subst e
 cases r1
 obtain ⟨its,rv,p,hz⟩:=I1.tuple hq
 refine EI (show s1.heap.IsTuple a its.toArray from p) ?_
 refine ⟨s1.heap.objs.size,[s1.heap.objs.size],_,_,H1,rfl,I1.kept (t':=s1.toks) fun b o e=>Ac _ e,aEH a _,⟨_,Ag _ rfl,rfl,rfl⟩,fun b hb=>?_,q⟩
 have e:b=s1.heap.objs.size:=by simpa using hb
 subst e
 exact I1.fpOk (Ak _) (I1.hok.fresh (Ak _))
theorem aDZ {pins:List (Addr×Obj)} {σ:St} {H:Hp} {s:Ad} {R:It->Hp->Prop} {E:Value->Ad->Prop} {lo hi:Int} {t u v:Tok} {tk:Nat} (I:Inv X pins σ H s) (h1:-(2 ^ 62)<=lo) (h2:lo < 2 ^ 62) (h3:-(2 ^ 62)<=hi) (h4:hi < 2 ^ 62)
  (q:R (Itr lo (hi - lo).toNat) H):Ar (AB X.prog X.w) X.A (FH (.ref s.heap.objs.size)) (PIE X pins σ tg R) E { s with heap:=s.heap.push { cls:=.type "range",data:=.fields #[.int lo t,.int hi u,.int 1 v] },toks:=tk }:=by
 refine wpAny_pyIter_range (IsRange.new ..) (small_one h1 h2 h3 h4) ?_
 have I1:Inv X pins σ H { s with heap:=s.heap.push { cls:=.type "range",data:=.fields #[.int lo t,.int hi u,.int 1 v] },toks:=tk }:=I.kept fun b o e=>Ac _ e
 refine ⟨(s.heap.push { cls:=.type "range",data:=.fields #[.int lo t,.int hi u,.int 1 v] }).objs.size,[(s.heap.push { cls:=.type "range",data:=.fields #[.int lo t,.int hi u,.int 1 v] }).objs.size],_,_,H,rfl,
  I1.kept (t':=tk) fun b o e=>Ac _ e,aEI _ lo (hi - lo).toNat,?_,fun b hb=>?_,q⟩
 ·have e1:lo + ((0:Nat):Int) * 1=lo:=by simp
  have e2:(((hi - lo).toNat:Nat):Int) - ((0:Nat):Int)=Builtin.Range.rangeSize lo hi 1:=by rw [rangeSize_one]; split <;> lia
  show IsRangeIter _ _ (lo + ((0:Nat):Int) * 1) ((((hi - lo).toNat:Nat):Int) - ((0:Nat):Int)) 1
  rw [e1,e2]
  exact Ag _ rfl
 ·have e:b=(s.heap.push { cls:=.type "range",data:=.fields #[.int lo t,.int hi u,.int 1 v] }).objs.size:=by simpa using hb
  subst e
  exact I1.fpOk (Ak _) (I1.hok.fresh (Ak _))
noncomputable def aLS (ta:TA):TI:=fun σ H R=>ta σ H fun vs H1=>∃ j:Int,vs=[.int j]/\-(2 ^ 62)<=j/\j < 2 ^ 62/\R (Itr 0 j.toNat) H1
noncomputable def aLT (ta:TA):TI:=fun σ H R=>ta σ H fun vs H1=>∃ i j:Int,vs=[.int i,.int j]/\(-(2 ^ 62)<=i/\i < 2 ^ 62/\-(2 ^ 62)<=j/\j < 2 ^ 62)/\R (Itr i (j - i).toNat) H1
theorem jJ {a:Expr} {ta:TA} {p pos:Pos} (hg:Gl X "range") (hm:X.mg "range"=none) (ha:PA X [a] ta) (hs:AW [a] X.env=[(false,eval a X.env)]:=by rfl):PI X tg (.Call (.Name "range" p) [a] [] pos) (aLS ta):=by
 intro pins s σ H R I h
 refine Call_ (qT I hg hm boot_range (Cz (thn (ha pos pins s σ H _ I h) fun us s1 ⟨vs,H1,I1,r1,q1⟩=>?_) hs rfl))
 obtain ⟨j,e,q1,q2,q⟩:=q1
 subst e
 cases r1 with
 | cons r rr =>
  cases rr
  obtain ⟨t,rfl⟩:=r
  exact call_range_1 (aDZ I1 (by lia) (by lia) q1 q2 (by simpa using q))
theorem aBw {a b:Expr} {ta:TA} {p pos:Pos} (hg:Gl X "range") (hm:X.mg "range"=none) (ha:PA X [a,b] ta) (hs:AW [a,b] X.env=[(false,eval a X.env),(false,eval b X.env)]:=by rfl) (hs2:AW [b] X.env=[(false,eval b X.env)]:=by rfl) :
  PI X tg (.Call (.Name "range" p) [a,b] [] pos) (aLT ta):=by
 intro pins s σ H R I h
 refine Call_ (qT I hg hm boot_range (Cz (thn (ha pos pins s σ H _ I h) fun us s1 ⟨vs,H1,I1,r1,q1⟩=>?_) (by rw [hs,hs2]) (by rw [hs2]; rfl)))
 obtain ⟨i,j,e,⟨q1,q2,q3,q4⟩,q⟩:=q1
 subst e
 cases r1 with
 | cons r rr =>
  cases rr with
  | cons r' rr =>
   cases rr
   obtain ⟨t,rfl⟩:=r
   obtain ⟨t',rfl⟩:=r'
   exact call_range_2 (aDZ I1 q1 q2 q3 q4 q)
noncomputable def tFor (wi:TI) (g:TG) (tb:TS):TS:=fun D σ H=>wi σ H fun J H1=>∃ W:Nat->Nat->St->Hp->Prop,(∃ m,W 0 m σ H1)/\∀ i m σ H,W i m σ H ->
 (J.stop i H/\D.nx σ H)\/(J.go i H/\∃ N:St->Hp->Prop,(∀ σ' H',N σ' H'->∃ m',m' < m/\W (i + 1) m' σ' H')/\∀ x H',J.yld i H x H'->g x σ H' fun σ2 H2=>tb { D with nx:=N,ct:=N,bk:=D.nx } σ2 H2)
noncomputable def aAI (fp:List Addr) (h:Heap):List (Addr×Obj):=fp.filterMap fun b=>(h.get? b).map fun o=>(b,o)
theorem zd {fp:List Addr} {h:Heap} {b:Addr} {o:Obj} (hb:b∈fp) (e:h.get? b=some o):(b,o)∈aAI fp h:=DY.mpr ⟨b,hb,by rw [e]; rfl⟩
theorem aEx {fp:List Addr} {h:Heap} {p:Addr×Obj} (hp:p∈aAI fp h):p.1∈fp/\h.get? p.1=some p.2:=by
 obtain ⟨b,hb,e⟩:=DY.mp hp
 cases q:h.get? b with
 | none=>rw [q] at e; cases e
 | some o =>
  rw [q] at e
  have e':(b,o)=p:=Ck e
  subst e'
  exact ⟨hb,q⟩
theorem Inv.pinned {pins:List (Addr×Obj)} {σ:St} {H:Hp} {s:Ad} {fp:List Addr} (I:Inv X pins σ H s) (hf:∀ b∈fp,FpOk X pins H b) (ho:∀ b∈fp,∃ o,s.heap.get? b=some o/\∀ v,o.data≠.cell v):Inv X (pins++aAI fp s.heap) σ H s :=
 I.pins_of fun p hp=>(Bj.mp hp).elim (fun z=>I.pin p (An _ z)) fun z=>by
  obtain ⟨hb,e⟩:=aEx z
  obtain ⟨f0,f1,f2,_⟩:=hf p.1 hb
  obtain ⟨o,e',d⟩:=ho p.1 hb
  rw [e] at e'; cases e'
  exact ⟨e,f0,f1,f2,d⟩
theorem Inv.unpinned {pins pl:List (Addr×Obj)} {σ:St} {H:Hp} {s:Ad} (I:Inv X (pins++pl) σ H s):Inv X pins σ H s:=I.pins_of fun p hp=>I.pin p (An _ (CL _ hp))
theorem yH {iter:Expr} {body:List Stmt} {wi:TI} {g:TG} {tb:TS} {pos:Pos} (hp:PassesOwn (AB X.prog X.w) X.A X.env X.xe) (hc:X.calm=true) (hi:PI X tg iter wi) (hg:PG X tg g) (hb:PSs X body tb)
  (hs:∀ x,BE iter X.env x=pure x:=by intro _; rfl):PS X (.For tg iter body [] pos) (tFor wi g tb):=by
 intro pins s σ H D I h
 refine wpAny_For (thn (hi pins s σ H _ I h) fun v s1 h1=>thn h1 fun itv s2 h2=>?_) hs
 obtain ⟨it,fp,tn,J,H2,e,I2,T,st2,f2,W,⟨m0,w0⟩,turn⟩:=h2
 subst e
 have stat:∀ {H':Hp},(∀ b∈fp,H' b=none)->∀ b∈fp,FpOk X pins H' b:=fun hn b hb=>⟨hn b hb,(f2 b hb).2⟩
 refine codeAny_forLoop_any (fun n s'=>∃ i σ' H',Inv X pins σ' H' s'/\tn i s'.heap/\(∀ b∈fp,H' b=none)/\W i n σ' H') ?_ m0 ⟨0,σ,H2,I2,st2,fun b hb=>(f2 b hb).1,w0⟩
 rintro n s3 ⟨i,σ3,H3,I3,st3,fr3,w3⟩
 rcases turn i n σ3 H3 w3 with ⟨stop,qn⟩ | ⟨go,N,hN,step⟩
 ·refine Ek hp (thn (T.done X rfl rfl rfl hc i pins s3 σ3 H3 X.xe I3 (stat fr3) st3 stop) fun r s4 ⟨hr,I4⟩=>?_)
  subst hr
  exact FG ⟨σ3,H3,I4,qn⟩
 ·refine Ek hp (thn (T.item X rfl rfl rfl hc i pins s3 σ3 H3 X.xe I3 (stat fr3) st3 go) fun r s4 ⟨u,hr,h4⟩=>?_)
  subst hr
  refine Ek hp (thn h4 fun _ s5 ⟨x,H5,I5,r5,y5,st5,fr5⟩=>?_)
  have I5':=I5.pinned (stat fr5) (T.obj _ _ st5)
  refine Ek hp (thn (hg _ s5 σ3 H5 x u _ I5' r5 (step x H5 y5)) fun _ s6 ⟨σ6,H6,I6,q6⟩=>?_)
  refine Ek hp (thn (hb _ s6 σ6 H6 _ I6 q6) fun f s7 q7=>?_)
  have Jg:∀ {σ7:St} {H7:Hp},Inv X (pins++aAI fp s5.heap) σ7 H7 s7->N σ7 H7->∃ m,m < n/\∃ i σ' H',Inv X pins σ' H' s7/\tn i s7.heap/\(∀ b∈fp,H' b=none)/\W i m σ' H':=fun {σ7 H7} I7 n7=>by
   obtain ⟨m',hm,w7⟩:=hN σ7 H7 n7
   refine ⟨m',hm,i + 1,σ7,H7,I7.unpinned,T.keep _ _ _ st5 fun b hb o e=>(I7.pin (b,o) (An _ (An _ (zd hb e)))).1,fun b hb=>?_,w7⟩
   obtain ⟨o,e,d⟩:=T.obj _ _ st5 b hb
   exact (I7.pin (b,o) (An _ (An _ (zd hb e)))).2.1
  cases f with
  | next=>obtain ⟨σ7,H7,I7,n7⟩:=q7; exact Jg I7 n7
  | cont=>obtain ⟨σ7,H7,I7,n7⟩:=q7; exact Jg I7 n7
  | brk=>obtain ⟨σ7,H7,I7,q7⟩:=q7; exact ⟨σ7,H7,I7.unpinned,q7⟩
  | ret v=>obtain ⟨x7,σ7,H7,I7,r7,q7⟩:=q7; exact ⟨x7,σ7,H7,I7.unpinned,r7,q7⟩
end
theorem qN {K:Af} {a:Addr} {xs:List V} {g:TG} {tb:TS} {D:Ends} {σ:St} {H:Hp} (Pv:Nat->St->Hp->Prop) (h0:Pv 0 σ H) (hl:∀ i σ H,i<=xs.length->Pv i σ H->SqL K H a xs)
  (hs:∀ i x σ H,xs[i]?=some x->Pv i σ H->g x σ H fun σ2 H2=>tb { D with nx:=Pv (i + 1),ct:=Pv (i + 1),bk:=D.nx } σ2 H2) (hd:∀ σ H,Pv xs.length σ H->D.nx σ H) :
  ∃ W:Nat->Nat->St->Hp->Prop,(∃ m,W 0 m σ H)/\∀ i m σ H,W i m σ H ->
   ((Itl K a).stop i H/\D.nx σ H)\/((Itl K a).go i H/\∃ N:St->Hp->Prop,(∀ σ' H',N σ' H'->∃ m',m' < m/\W (i + 1) m' σ' H')/\∀ x H',(Itl K a).yld i H x H'->g x σ H' fun σ2 H2=>tb { D with nx:=N,ct:=N,bk:=D.nx } σ2 H2):=by
 refine ⟨fun i m σ H=>m=xs.length - i/\i<=xs.length/\Pv i σ H,⟨xs.length,by simp,AL _,h0⟩,?_⟩
 rintro i m σ H ⟨rfl,hi,p⟩
 have q:=hl i σ H hi p
 by_cases hlt:i < xs.length
 ·refine .inr ⟨⟨xs,xs[i],q,by simp [hlt]⟩,Pv (i + 1),fun σ' H' p'=>⟨xs.length - (i + 1),by lia,rfl,hlt,p'⟩,fun x H' y=>?_⟩
  obtain ⟨e,y⟩:=y
  subst e
  exact hs i x σ _ (y xs q) p
 ·have e:i=xs.length:=by lia
  subst e
  exact .inl ⟨⟨xs,q,Ak _⟩,hd σ H p⟩
theorem aCl {K:Af} {a:Addr} {xs:List V} {g:TG} {tb:TS} {D:Ends} {σ:St} {H:Hp} (Pv:Nat->St->Hp->Prop) (h0:Pv 0 σ H) (hl:∀ i σ H,i<=xs.length->Pv i σ H->SqT K H a xs)
  (hs:∀ i x σ H,xs[i]?=some x->Pv i σ H->g x σ H fun σ2 H2=>tb { D with nx:=Pv (i + 1),ct:=Pv (i + 1),bk:=D.nx } σ2 H2) (hd:∀ σ H,Pv xs.length σ H->D.nx σ H) :
  ∃ W:Nat->Nat->St->Hp->Prop,(∃ m,W 0 m σ H)/\∀ i m σ H,W i m σ H ->
   ((Itt K a).stop i H/\D.nx σ H)\/((Itt K a).go i H/\∃ N:St->Hp->Prop,(∀ σ' H',N σ' H'->∃ m',m' < m/\W (i + 1) m' σ' H')/\∀ x H',(Itt K a).yld i H x H'->g x σ H' fun σ2 H2=>tb { D with nx:=N,ct:=N,bk:=D.nx } σ2 H2):=by
 refine ⟨fun i m σ H=>m=xs.length - i/\i<=xs.length/\Pv i σ H,⟨xs.length,by simp,AL _,h0⟩,?_⟩
 rintro i m σ H ⟨rfl,hi,p⟩
 have q:=hl i σ H hi p
 by_cases hlt:i < xs.length
 ·refine .inr ⟨⟨xs,xs[i],q,by simp [hlt]⟩,Pv (i + 1),fun σ' H' p'=>⟨xs.length - (i + 1),by lia,rfl,hlt,p'⟩,fun x H' y=>?_⟩
  obtain ⟨e,y⟩:=y
  subst e
  exact hs i x σ _ (y xs q) p
 ·have e:i=xs.length:=by lia
  subst e
  exact .inl ⟨⟨xs,q,Ak _⟩,hd σ H p⟩
theorem jK {lo:Int} {n:Nat} {g:TG} {tb:TS} {D:Ends} {σ:St} {H:Hp} (Pv:Nat->St->Hp->Prop) (h0:Pv 0 σ H)
  (hs:∀ i σ H,i < n->Pv i σ H->g (.int (lo + i)) σ H fun σ2 H2=>tb { D with nx:=Pv (i + 1),ct:=Pv (i + 1),bk:=D.nx } σ2 H2) (hd:∀ σ H,Pv n σ H->D.nx σ H) :
  ∃ W:Nat->Nat->St->Hp->Prop,(∃ m,W 0 m σ H)/\∀ i m σ H,W i m σ H ->
   ((Itr lo n).stop i H/\D.nx σ H)\/((Itr lo n).go i H/\∃ N:St->Hp->Prop,(∀ σ' H',N σ' H'->∃ m',m' < m/\W (i + 1) m' σ' H')/\∀ x H',(Itr lo n).yld i H x H'->g x σ H' fun σ2 H2=>tb { D with nx:=N,ct:=N,bk:=D.nx } σ2 H2):=by
 refine ⟨fun i m σ H=>m=n - i/\i<=n/\Pv i σ H,⟨n,by simp,AL _,h0⟩,?_⟩
 rintro i m σ H ⟨rfl,hi,p⟩
 by_cases hlt:i < n
 ·refine .inr ⟨hlt,Pv (i + 1),fun σ' H' p'=>⟨n - (i + 1),by lia,rfl,hlt,p'⟩,fun x H' y=>?_⟩
  obtain ⟨e,y⟩:=y
  subst e y
  exact hs i σ _ hlt p
 ·have e:i=n:=by lia
  subst e
  exact .inl ⟨Ak _,hd σ H p⟩
noncomputable abbrev R2:=V->V->Hp->VK->Prop
noncomputable def OpR (X:Cx) (f:Value->Value->Sem Value) (r:R2):Prop :=
 ∀ (pins:List (Addr×Obj)) (s:Ad) (σ:St) (H:Hp) (x y:V) (v u:Value) (Q:VK),Inv X pins σ H s->RelV x v->RelV y u->r x y H Q ->
  Ar (AB X.prog X.w) X.A (f v u) (EP X pins σ Q) X.xe s
noncomputable def UnR (X:Cx) (f:Value->Sem Value) (r:V->Hp->VK->Prop):Prop :=
 ∀ (pins:List (Addr×Obj)) (s:Ad) (σ:St) (H:Hp) (x:V) (v:Value) (Q:VK),Inv X pins σ H s->RelV x v->r x H Q ->
  Ar (AB X.prog X.w) X.A (f v) (EP X pins σ Q) X.xe s
noncomputable def qW (X:Cx) (f:Value) (r:List V->Hp->VK->Prop):Prop :=
 ∀ (pins:List (Addr×Obj)) (s:Ad) (σ:St) (H:Hp) (xs:List V) (us:List Value) (Q:VK),Inv X pins σ H s->Vals xs us->r xs H Q ->
  Ar (AB X.prog X.w) X.A (call f us) (EP X pins σ Q) X.xe s
noncomputable def TruR (X:Cx) (r:V->Hp->(Bool->Hp->Prop)->Prop):Prop :=
 ∀ (pins:List (Addr×Obj)) (s:Ad) (σ:St) (H:Hp) (x:V) (v:Value) (Q:Bool->Hp->Prop),Inv X pins σ H s->RelV x v->r x H Q ->
  Ar (AB X.prog X.w) X.A (truthy v) (TP X pins σ Q) X.xe s
noncomputable def tOp (r:R2) (ta tb:TE):TE:=fun σ H Q=>ta σ H fun x H1=>tb σ H1 fun y H2=>r x y H2 Q
noncomputable def tUn (r:V->Hp->VK->Prop) (ta:TE):TE:=fun σ H Q=>ta σ H fun x H1=>r x H1 Q
noncomputable def rI (C:Int->Int->Prop) (g:Int->Int->V):R2:=fun x y H Q=>∃ i j,x=.int i/\y=.int j/\C i j/\Q (g i j) H
noncomputable def rI0 (g:Int->Int->V):R2:=fun x y H Q=>∃ i j,x=.int i/\y=.int j/\Q (g i j) H
noncomputable def rU (g:Int->V):V->Hp->VK->Prop:=fun x H Q=>∃ i,x=.int i/\Q (g i) H
section
variable {X:Cx} {a b c:Expr} {ta tb tc:TE} {pos:Pos}
theorem binT (ha:PE X a ta) (hb:PE X b tb) {pins:List (Addr×Obj)} {s:Ad} {σ:St} {H:Hp} {R:V->V->Hp->Prop} (I:Inv X pins σ H s)
  (h:ta σ H fun x H1=>tb σ H1 fun y H2=>R x y H2) {Q:Value->Ad->Prop} {f:Value->Value->Sem Value}
  (hf:∀ v u s2 x y H2,Inv X pins σ H2 s2->RelV x v->RelV y u->R x y H2->Ar (AB X.prog X.w) X.A (f v u) Q X.xe s2) :
  Ar (AB X.prog X.w) X.A (eval a X.env) (fun v s₁=>Ar (AB X.prog X.w) X.A (eval b X.env) (fun u s₂=>Ar (AB X.prog X.w) X.A (f v u) Q X.xe s₂) X.xe s₁) X.xe s:=by
 refine thn (ha pins s σ H _ I h) fun v s1 ⟨x,H1,I1,r1,q1⟩=>?_
 refine thn (hb pins s1 σ H1 _ I1 q1) fun u s2 ⟨y,H2,I2,r2,q2⟩=>?_
 exact hf v u s2 x y H2 I2 r1 r2 q2
theorem zW {op:Operator} {r:R2} (ho:OpR X (EY op) r) (ha:PE X a ta) (hb:PE X b tb):PE X (.BinOp a op b pos) (tOp r ta tb):=by
 intro pins s σ H Q I h
 exact wpAny_BinOp (binT ha hb I h fun v u s2 x y H2 I2 rx ry q=>ho pins s2 σ H2 x y v u Q I2 rx ry q)
theorem aLU {op:UnaryOp} {r:V->Hp->VK->Prop} (ho:UnR X (unaryOp op) r) (ha:PE X a ta):PE X (.UnaryOp op a pos) (tUn r ta):=by
 intro pins s σ H Q I h
 exact UnaryOp_ (thn (ha pins s σ H _ I h) fun v s1 ⟨x,H1,I1,r1,q1⟩=>ho pins s1 σ H1 x v Q I1 r1 q1)
theorem opI {f:Value->Value->Sem Value} {C:Int->Int->Prop} {g:Int->Int->Int}
  (rule:∀ (i j:Int) (t u:Tok) (s:Ad) (Q:Value->Ad->Prop) (E:Value->Ad->Prop),C i j->Q (.int (g i j) s.toks) { s with toks:=s.toks + 1 }->Ar (AB X.prog X.w) X.A (f (.int i t) (.int j u)) Q E s) :
  OpR X f (rI C fun i j=>.int (g i j)):=by
 intro pins s σ H x y v u Q I rx ry h
 obtain ⟨i,j,rfl,rfl,hc,q⟩:=h
 obtain ⟨t,rfl⟩:=rx
 obtain ⟨t',rfl⟩:=ry
 exact rule i j t t' s _ _ hc ⟨.int (g i j),H,I.tok _,⟨_,rfl⟩,q⟩
theorem opI0 {f:Value->Value->Sem Value} {g:Int->Int->Int}
  (rule:∀ (i j:Int) (t u:Tok) (s:Ad) (Q:Value->Ad->Prop) (E:Value->Ad->Prop),Q (.int (g i j) s.toks) { s with toks:=s.toks + 1 }->Ar (AB X.prog X.w) X.A (f (.int i t) (.int j u)) Q E s) :
  OpR X f (rI0 fun i j=>.int (g i j)):=by
 intro pins s σ H x y v u Q I rx ry h
 obtain ⟨i,j,rfl,rfl,q⟩:=h
 obtain ⟨t,rfl⟩:=rx
 obtain ⟨t',rfl⟩:=ry
 exact rule i j t t' s _ _ ⟨.int (g i j),H,I.tok _,⟨_,rfl⟩,q⟩
theorem opB0 {f:Value->Value->Sem Value} {g:Int->Int->Bool}
  (rule:∀ (i j:Int) (t u:Tok) (s:Ad) (Q:Value->Ad->Prop) (E:Value->Ad->Prop),Q (.bool (g i j)) s->Ar (AB X.prog X.w) X.A (f (.int i t) (.int j u)) Q E s) :
  OpR X f (rI0 fun i j=>.bl (g i j)):=by
 intro pins s σ H x y v u Q I rx ry h
 obtain ⟨i,j,rfl,rfl,q⟩:=h
 obtain ⟨t,rfl⟩:=rx
 obtain ⟨t',rfl⟩:=ry
 exact rule i j t t' s _ _ ⟨.bl (g i j),H,I,rfl,q⟩
noncomputable def CDiv (i j:Int):Prop:=0 < j/\j < 1073741824
noncomputable def CPow (i j:Int):Prop:=0<=j/\j<=1000000/\i.natAbs < 2 ^ 64
noncomputable def CMul (i j:Int):Prop:=(-(2 ^ 64) < i/\i < 2 ^ 64)\/(-(2 ^ 64) < j/\j < 2 ^ 64)
theorem CMul.ok {i j:Int} (h:CMul i j):Mb i j:=by
 rcases h with ⟨h1,h2⟩ | ⟨h1,h2⟩
 ·exact .of_left (intBits_le_64 h1 h2)
 ·exact .of_right (intBits_le_64 h1 h2)
theorem qB:OpR X (EY .Add) (rI0 fun i j=>.int (i + j)):=opI0 fun _ _ _ _ _ _ _ q=>add_int q
theorem aI2:OpR X (EY .Sub) (rI0 fun i j=>.int (i - j)):=opI0 fun _ _ _ _ _ _ _ q=>sub_int q
theorem aAJ:OpR X (EY .Mult) (rI CMul fun i j=>.int (i * j)):=opI fun _ _ _ _ _ _ _ hc q=>mul_int q hc.ok
theorem aCm:OpR X (EY .FloorDiv) (rI CDiv fun i j=>.int (i / j)):=opI fun i j _ _ _ _ _ hc q=>by
 have h1:(0:Int) < j:=hc.1
 have h2:j < 1073741824:=hc.2
 exact floordiv_int (by lia) (by rw [Ha i (by lia)]; exact q) (.inl (PyProof.noPylong_small (by lia)))
theorem qC:OpR X (EY .Mod) (rI (fun _ j=>0 < j) fun i j=>.int (i % j)):=opI fun i j _ _ _ _ _ hc q=>by
 have h1:(0:Int) < j:=hc
 exact mod_int' (by lia) (by rw [Int.fmod_eq_emod_of_nonneg i (by lia)]; exact q)
theorem aK5:OpR X (EY .Pow) (rI CPow fun i j=>.int (i ^ j.toNat)):=opI fun _ _ _ _ _ _ _ hc q=>pow_int_small hc.1 hc.2.1 hc.2.2 q
theorem unI {f:Value->Sem Value} {g:Int->Int}
  (rule:∀ (i:Int) (t:Tok) (s:Ad) (Q:Value->Ad->Prop) (E:Value->Ad->Prop),Q (.int (g i) s.toks) { s with toks:=s.toks + 1 }->Ar (AB X.prog X.w) X.A (f (.int i t)) Q E s) :
  UnR X f (rU fun i=>.int (g i)):=by
 intro pins s σ H x v Q I rx h
 obtain ⟨i,rfl,q⟩:=h
 obtain ⟨t,rfl⟩:=rx
 exact rule i t s _ _ ⟨.int (g i),H,I.tok _,⟨_,rfl⟩,q⟩
theorem aK6:UnR X (unaryOp .USub) (rU fun i=>.int (-i)):=unI fun _ _ _ _ _ q=>neg_int q
end
noncomputable def scal:V->V->Bool
 | .non,.non=>true | .non,.int _=>true | .int _,.non=>true | .non,.bl _=>true | .bl _,.non=>true | .non,.str _=>true | .str _,.non=>true
 | .int _,.int _=>true | .bl _,.bl _=>true | .str _,.str _=>true | .byt _,.byt _=>true
 | .int _,.str _=>true | .str _,.int _=>true | .bl _,.str _=>true | .str _,.bl _=>true
 | _,_=>false
noncomputable def rEq:R2:=fun x y H Q=>scal x y=true/\Q (.bl (decide (x=y))) H
noncomputable def rNe:R2:=fun x y H Q=>scal x y=true/\Q (.bl (!decide (x=y))) H
theorem aEy {i j:Int}:decide (V.int i=V.int j)=(i == j):=by
 rw [GL]
 simp
theorem aI3 {i j:Bool}:decide (V.bl i=V.bl j)=(i == j):=by
 rw [GL]
 simp
theorem aEz {i j:Str}:decide (V.str i=V.str j)=(i == j):=by
 rw [GL]
 simp
theorem aF0 {i j:Array UInt8}:decide (V.byt i=V.byt j)=(i.toList == j.toList):=by
 rw [GL]
 cases i
 cases j
 simp
section
variable {X:Cx} {a b c:Expr} {ta tb tc:TE} {pos:Pos}
theorem zZ {pins:List (Addr×Obj)} {σ:St} {H:Hp} {s:Ad} {Q:VK} {k k':Bool} (I:Inv X pins σ H s) (q:Q (.bl k) H) (e:k=k'):EP X pins σ Q (.bool k') s:=by
 subst e
 exact ⟨.bl k,H,I,rfl,q⟩
theorem aCn:OpR X (DQ .Eq) rEq:=by
 intro pins s σ H x y v u Q I rx ry h
 obtain ⟨hs,q⟩:=h
 cases x with
 | non =>
  cases rx
  cases y with
  | non=>cases ry; exact PySem.EqNone.eq_none_none (zZ I q (by simp))
  | bl j=>cases ry; exact PySem.EqNone.eq_none_bool (zZ I q (by simp))
  | int j=>obtain ⟨t',rfl⟩:=ry; exact PySem.EqNone.eq_none_int (zZ I q (by simp))
  | str j=>obtain ⟨t',rfl⟩:=ry; exact PySem.EqNone.eq_none_str (zZ I q (by simp))
  | _=>exact absurd (show false=true from hs) Av
 | bl i =>
  cases rx
  cases y with
  | non=>cases ry; exact PySem.EqNone.eq_bool_none (zZ I q (by simp))
  | bl j=>cases ry; exact eq_bool (zZ I q aI3)
  | str j=>obtain ⟨t',rfl⟩:=ry; exact PySem.EqMixed.eq_bool_str (zZ I q (by simp))
  | _=>exact absurd (show false=true from hs) Av
 | int i =>
  obtain ⟨t,rfl⟩:=rx
  cases y with
  | non=>cases ry; exact PySem.EqNone.eq_int_none (zZ I q (by simp))
  | int j=>obtain ⟨t',rfl⟩:=ry; exact eq_int (zZ I q aEy)
  | str j=>obtain ⟨t',rfl⟩:=ry; exact PySem.EqMixed.eq_int_str (zZ I q (by simp))
  | _=>exact absurd (show false=true from hs) Av
 | str i =>
  obtain ⟨t,rfl⟩:=rx
  cases y with
  | non=>cases ry; exact PySem.EqNone.eq_str_none (zZ I q (by simp))
  | bl j=>cases ry; exact PySem.EqMixed.eq_str_bool (zZ I q (by simp))
  | int j=>obtain ⟨t',rfl⟩:=ry; exact PySem.EqMixed.eq_str_int (zZ I q (by simp))
  | str j=>obtain ⟨t',rfl⟩:=ry; exact eq_str (zZ I q aEz)
  | _=>exact absurd (show false=true from hs) Av
 | byt i =>
  obtain ⟨t,rfl⟩:=rx
  cases y with
  | byt j=>obtain ⟨t',rfl⟩:=ry; exact PySem.W.eq_bytes (zZ I q aF0)
  | _=>exact absurd (show false=true from hs) Av
 | _=>cases y <;> exact absurd (show false=true from hs) Av
theorem aLV:OpR X (DQ .NotEq) rNe:=by
 intro pins s σ H x y v u Q I rx ry h
 obtain ⟨hs,q⟩:=h
 cases x with
 | non =>
  cases rx
  cases y with
  | non=>cases ry; exact PySem.EqNone.ne_none_none (zZ I q (by simp))
  | bl j=>cases ry; exact PySem.EqNone.ne_none_bool (zZ I q (by simp))
  | int j=>obtain ⟨t',rfl⟩:=ry; exact PySem.EqNone.ne_none_int (zZ I q (by simp))
  | str j=>obtain ⟨t',rfl⟩:=ry; exact PySem.EqNone.ne_none_str (zZ I q (by simp))
  | _=>exact absurd (show false=true from hs) Av
 | bl i =>
  cases rx
  cases y with
  | non=>cases ry; exact PySem.EqNone.ne_bool_none (zZ I q (by simp))
  | bl j=>cases ry; exact ne_bool (zZ I q (congrArg not aI3))
  | str j=>obtain ⟨t',rfl⟩:=ry; exact PySem.EqMixed.ne_bool_str (zZ I q (by simp))
  | _=>exact absurd (show false=true from hs) Av
 | int i =>
  obtain ⟨t,rfl⟩:=rx
  cases y with
  | non=>cases ry; exact PySem.EqNone.ne_int_none (zZ I q (by simp))
  | int j=>obtain ⟨t',rfl⟩:=ry; exact ne_int (zZ I q (congrArg not aEy))
  | str j=>obtain ⟨t',rfl⟩:=ry; exact PySem.EqMixed.ne_int_str (zZ I q (by simp))
  | _=>exact absurd (show false=true from hs) Av
 | str i =>
  obtain ⟨t,rfl⟩:=rx
  cases y with
  | non=>cases ry; exact PySem.EqNone.ne_str_none (zZ I q (by simp))
  | bl j=>cases ry; exact PySem.EqMixed.ne_str_bool (zZ I q (by simp))
  | int j=>obtain ⟨t',rfl⟩:=ry; exact PySem.EqMixed.ne_str_int (zZ I q (by simp))
  | str j=>obtain ⟨t',rfl⟩:=ry; exact ne_str (zZ I q (congrArg not aEz))
  | _=>exact absurd (show false=true from hs) Av
 | byt i =>
  obtain ⟨t,rfl⟩:=rx
  cases y with
  | byt j=>obtain ⟨t',rfl⟩:=ry; exact PySem.W.ne_bytes (zZ I q (congrArg not aF0))
  | _=>exact absurd (show false=true from hs) Av
 | _=>cases y <;> exact absurd (show false=true from hs) Av
theorem aLW:OpR X (DQ .Lt) (rI0 fun i j=>.bl (decide (i < j))):=opB0 fun _ _ _ _ _ _ _ q=>lt_int q
theorem aLX:OpR X (DQ .LtE) (rI0 fun i j=>.bl (decide (i<=j))):=opB0 fun _ _ _ _ _ _ _ q=>le_int q
theorem aK7:OpR X (DQ .Gt) (rI0 fun i j=>.bl (decide (j < i))):=opB0 fun _ _ _ _ _ _ _ q=>gt_int q
theorem aK8:OpR X (DQ .GtE) (rI0 fun i j=>.bl (decide (j<=i))):=opB0 fun _ _ _ _ _ _ _ q=>ge_int q
theorem aK9:OpR X (DQ .Is) (fun x y H Q=>y=.non/\Q (.bl (decide (x=.non))) H):=by
  intro pins s σ H x y v u Q I rx ry h
  obtain ⟨rfl,q⟩:=h
  cases ry
  refine is_none_gen (zZ I q ?_)
  cases x <;> first
    | (cases rx; rfl)
    | (obtain ⟨t,rfl⟩:=rx; rfl)
theorem zn (b:Expr) {op:CmpOp} (h:op≠.In:=by decide) (h2:op≠.NotIn:=by decide):Ir op b=false:=by
 have e1:(op == CmpOp.In)=false:=by cases op <;> first | rfl | exact absurd rfl h
 have e2:(op == CmpOp.NotIn)=false:=by cases op <;> first | rfl | exact absurd rfl h2
 cases b <;> simp [Ir,e1,e2]
theorem aBD {op:CmpOp} {r:R2} (ho:OpR X (DQ op) r) (ha:PE X a ta) (hb:PE X b tb) (hm:Ir op b=false):PE X (.Compare a [op] [b] pos) (tOp r ta tb):=by
 intro pins s σ H Q I h
 exact wpAny_Compare1 (binT ha hb I h fun v u s2 x y H2 I2 rx ry q=>ho pins s2 σ H2 x y v u Q I2 rx ry q) hm
noncomputable def aLY (t:TE):TT:=fun σ H Q=>t σ H fun x H'=>∃ k,x=.bl k/\Q k H'
theorem zc {op:CmpOp} {r:R2} (ho:OpR X (DQ op) r) (ha:PE X a ta) (hb:PE X b tb) (hm:Ir op b=false):PT X (.Compare a [op] [b] pos) (aLY (tOp r ta tb)):=by
 intro pins s σ H Q I h
 refine wpAny_isTrue_Compare1 (thn (ha pins s σ H _ I h) fun v s1 ⟨x,H1,I1,r1,q1⟩=>thn (hb pins s1 σ H1 _ I1 q1) fun u s2 ⟨y,H2,I2,r2,q2⟩ =>
  thn (ho pins s2 σ H2 x y v u _ I2 r1 r2 q2) fun c s3 ⟨z,H3,I3,r3,k,e,q3⟩=>?_) hm
 subst e
 cases r3
 exact DI ⟨H3,I3,q3⟩
noncomputable def TruV (K:Af) (x:V) (H:Hp) (k:Bool):Prop :=
 match x with
 | .non=>k=false
 | .bl b=>k=b
 | .int i=>k=(i != 0)
 | .str y=>y.length<=sizeLine/\k=((y.length:Int) != 0)
 | .byt y=>y.size<=sizeLine/\k=((y.size:Int) != 0)
 | .ref p=>(∃ xs,SqL K H p xs/\k=!xs.isEmpty)\/(∃ xs,SqT K H p xs/\k=!xs.isEmpty)\/∃ kvs,H p=some (.dK kvs)/\k=!kvs.isEmpty
 | _=>False
theorem aEJ {κ:Type} {kvs:List (κ×V)} {vs:List (κ×Value)} (r:KV kvs vs):(!vs.isEmpty)=!kvs.isEmpty:=by
 cases r <;> rfl
theorem aAt {xs:List V} {its:List Value} (r:Vals xs its):(!its.toArray.isEmpty)=!xs.isEmpty:=by
 cases r <;> simp
theorem aDa:(sizeLine:Nat) < 2 ^ 63:=by rw [Bb]; decide
theorem aKA:TruR X (fun x H Q=>∃ k,TruV X.K x H k/\Q k H):=by
 intro pins s σ H x v Q I rx h
 obtain ⟨k,e,q⟩:=h
 have hl:=aDa
 have hs:sizeLine=16777216:=Bb
 cases x with
 | non =>
  cases rx
  have e':k=false:=e
  subst e'
  exact truthy_none ⟨H,I,q⟩
 | bl b =>
  cases rx
  have e':k=b:=e
  subst e'
  exact DI ⟨H,I,q⟩
 | int i =>
  obtain ⟨t,rfl⟩:=rx
  have e':k=(i != 0):=e
  subst e'
  exact PySem.P.truthy_int ⟨H,I,q⟩
 | str y =>
  obtain ⟨t,rfl⟩:=rx
  obtain ⟨hy,e'⟩:y.length<=sizeLine/\k=((y.length:Int) != 0):=e
  subst e'
  exact PySem.P.truthy_str (by lia) ⟨H,I.tok _,q⟩
 | byt y =>
  obtain ⟨t,rfl⟩:=rx
  obtain ⟨hy,e'⟩:y.size<=sizeLine/\k=((y.size:Int) != 0):=e
  subst e'
  exact PySem.W.truthy_bytes (by lia) ⟨H,I.tok _,q⟩
 | ref p =>
  cases rx
  have e':(∃ xs,SqL X.K H p xs/\k=!xs.isEmpty)\/(∃ xs,SqT X.K H p xs/\k=!xs.isEmpty)\/∃ kvs,H p=some (.dK kvs)/\k=!kvs.isEmpty:=e
  rcases e' with ⟨xs,hx,e'⟩ | ⟨xs,hx,e'⟩ | ⟨kvs,hx,e'⟩
  ·subst e'
   obtain ⟨its,r,pl,hz⟩:=I.list hx
   have hlen:=r.length
   exact wpAny_truthy_list pl.isList (by simp only [Ao]; lia) ⟨H,I.tok _,by rw [aAt r]; exact q⟩
  ·subst e'
   obtain ⟨its,r,pl,hz⟩:=I.tuple hx
   have hlen:=r.length
   exact truthy_tuple pl (by simp only [Ao]; lia) ⟨H,I.tok _,by rw [aAt r]; exact q⟩
  ·subst e'
   obtain ⟨hz,hS,vs,r,m⟩:kvs.length<=sizeLine/\(p == BM)=false/\∃ vs,KV kvs vs/\s.heap.DictOf (aCi X.prog X.w) p vs:=I.hok p _ hx
   have hlen:kvs.length=vs.length:=Ds r
   exact wpAny_truthy_dict hS m (by lia) ⟨H,I.tok _,by rw [aEJ r]; exact q⟩
 | _=>exact (show False from e).elim
theorem aBE (ha:PE X a ta) (he:∀ whole,isTrue a X.env whole=(do let v <- whole; Ft a.pos; Iq [v] (truthy v))) :
  PT X a (fun σ H Q=>ta σ H fun x H'=>∃ k,TruV X.K x H' k/\Q k H'):=by
 intro pins s σ H Q I h
 exact isTrue_plain (thn (ha pins s σ H _ I h) fun v s1 ⟨x,H1,I1,r1,q1⟩=>aKA pins s1 σ H1 x v Q I1 r1 q1) (he _)
theorem jj {x:V} {us:List Value} (r:Vals [x] us):∃ u,us=[u]/\RelV x u:=by
 cases r with
 | cons r1 r2=>cases r2; exact ⟨_,rfl,r1⟩
theorem aF1 {x y:V} {us:List Value} (r:Vals [x,y] us):∃ u w',us=[u,w']/\RelV x u/\RelV y w':=by
 cases r with
 | cons r1 r2 =>
  cases r2 with
  | cons r3 r4=>cases r4; exact ⟨_,_,rfl,r1,r3⟩
theorem aF2 (hc:X.calm=true):qW X (.builtin "max") (fun xs H Q=>∃ i j,xs=[.int i,.int j]/\Q (.int (if j > i then j else i)) H):=by
 intro pins s σ H xs us Q I r h
 obtain ⟨i,j,rfl,q⟩:=h
 obtain ⟨u,w',rfl,⟨t,rfl⟩,⟨t',rfl⟩⟩:=aF1 r
 refine max_two_ints (I.ok.hd hc) fun h' tk k=>⟨_,H,I.kept k,?_,q⟩
 by_cases hj:j > i
 ·rw [if_pos hj,if_pos hj]; exact ⟨_,rfl⟩
 ·rw [if_neg hj,if_neg hj]; exact ⟨_,rfl⟩
theorem aF3 (hc:X.calm=true):qW X (.builtin "min") (fun xs H Q=>∃ i j,xs=[.int i,.int j]/\Q (.int (if j < i then j else i)) H):=by
 intro pins s σ H xs us Q I r h
 obtain ⟨i,j,rfl,q⟩:=h
 obtain ⟨u,w',rfl,⟨t,rfl⟩,⟨t',rfl⟩⟩:=aF1 r
 refine min_two_ints (I.ok.hd hc) fun h' tk k=>⟨_,H,I.kept k,?_,q⟩
 by_cases hj:j < i
 ·rw [if_pos hj,if_pos hj]; exact ⟨_,rfl⟩
 ·rw [if_neg hj,if_neg hj]; exact ⟨_,rfl⟩
end
structure ObjM (h:Heap) (x dx C:Addr) (mA:Str->Option Value):Prop where
 obj:h.get? x=some (Jf C dx)
 ns:h.Ns1 dx mA
 ne:dx≠x
theorem aF4 {h:Heap} {dx:Addr} {mA:Str->Option Value} (n:h.Ns1 dx mA):∃ od,h.get? dx=some od/\∀ name,JU name od=some (mA name):=by
 obtain ⟨o,es,ep,ho,hd,hk,_,hm⟩:=n
 refine ⟨o,ho,fun name=>?_⟩
 have e:=hm name
 unfold nsFind findBy at e
 rw [<- Array.find?_toList] at e
 unfold JU
 rw [hd]
 dsimp only
 split
 ·rename_i y q
  rw [q] at e
  exact congrArg some e
 ·rename_i q
  rw [q] at e
  have a:es.toList.any (·.refKey)=false:=by
   rw [List.any_eq_false]
   intro y hy
   obtain ⟨z,t,hkey⟩:=hk y (Ei.mp hy)
   simp [DictEntry.refKey,hkey]
  have a':¬ es.toList.any (·.refKey)=true:=by rw [a]; exact Av
  rw [if_neg a']
  exact congrArg some e
theorem ObjM.look {h:Heap} {x dx C:Addr} {mA:Str->Option Value} (I:ObjM h x dx C mA):∃ od,Mx h x (Jf C dx) C (some od)/\∀ name,JU name od=some (mA name) :=
 let ⟨od,ho,hl⟩:=aF4 I.ns
 ⟨od,⟨I.obj,rfl,rfl,ho⟩,hl⟩
section
variable {prog:At} {w:AV} {A:AY} {E:Value->Ad->Prop} {s:Ad} {K:Af} {x dx C f:Addr} {mA:Str->Option Value} {name:Str} {v:Value}
end
theorem RelO.some_of {v:V} {o:Option Value} (r:RelO (some v) o):∃ u,o=some u/\RelV v u:=by
 cases o with
 | none=>exact (show False from r).elim
 | some u=>exact ⟨u,rfl,r⟩
section
variable {P:At} {w:AV} {H H':Hp} {h h':Heap} {a C dx:Addr} {fs fs':List (Str×V)}
theorem aIf (hok:HOk P w H h) (e:H a=some (.ins C dx fs)):∃ mA,ObjM h a dx C mA/\(∀ f,RelO (fs.lookup f) (mA f))/\Ni mA (fs.map (·.1))/\fs.length<=1000/\H dx=some (.own a):=by
 obtain ⟨d,z,ne,ob,mA,n,r,q⟩:=(show ObjOk P w H h a (.ins C dx fs) from hok a _ e)
 exact ⟨mA,⟨ob,n,ne⟩,r,q,z,d⟩
end
structure Cls (K:Af) (C:Addr):Prop where
 pg:LQ K C Str.empty=true
 hd:PySem.W.hasDictIn K C=true
 po:PySem.W.plainOver K C=true
 sa:BK K (.ref C) "__setattr__"=some (some (.builtin "object.__setattr__"))
theorem Cls.get {K:Af} {C:Addr} (c:Cls K C) (f:Str):LQ K C f=true:=c.pg
noncomputable def aF5 (K:Af) (C:Addr) (f:Str):Prop:=BK K (.ref C) f=some none
section
variable {X:Cx} {pins:List (Addr×Obj)} {σ:St} {H:Hp} {s:Ad} {a C dx:Addr} {fs:List (Str×V)} {f:Str} {v:V} {A:AY} {E:Value->Ad->Prop}
end
section
variable {X:Cx} {o e value:Expr} {f:Str} {pos pos' tpos:Pos} {ta tv:TE}
end
section
variable {X:Cx} {pins:List (Addr×Obj)} {σ:St} {H:Hp} {s:Ad} {A:AY} {E:Value->Ad->Prop} {Q:Value->Ad->Prop} {c:Value} {b:Bool}
inductive TyOf (K:Af) (H:Hp):V->Value->Prop where
 | non:TyOf K H .non (.type "NoneType")
 | bl (x:Bool):TyOf K H (.bl x) (.type "bool")
 | int (i:Int):TyOf K H (.int i) (.type "int")
 | str (x:Str):TyOf K H (.str x) (.type "str")
 | flt (x:UInt64):TyOf K H (.flt x) (.type "float")
 | lst {a:Addr} {xs:List V} (e:H a=some (.lst xs)):TyOf K H (.ref a) (.type "list")
 | frz {a:Addr} {o:Obj} {xs:List V} (e:H a=some (.frz o (.lst xs))):TyOf K H (.ref a) (.type "list")
 | tup {a:Addr} {xs:List V} (e:H a=some (.tup xs)):TyOf K H (.ref a) (.type "tuple")
 | dK {a:Addr} {kvs:List (Key×V)} (e:H a=some (.dK kvs)):TyOf K H (.ref a) (.type "dict")
 | dT {a:Addr} {kvs:List (List Key×V)} (e:H a=some (.dT kvs)):TyOf K H (.ref a) (.type "dict")
 | ins {a C dx:Addr} {fs:List (Str×V)} (e:H a=some (.ins C dx fs)) (cl:Cls K C) (ha:BK K (.ref C) "__class__"=some (some (.builtin "object.__class__")))
   (hn:PySem.W.specialIn K (.builtin "object.__class__") "__get__"=some (some (.builtin "getset_descriptor.__get__"))) (htk:PySem.W.takesIn K (.builtin "object.__class__")=some true)
   (hm:KC K C (.type "object")=some true):TyOf K H (.ref a) (.ref C)
theorem aF6 {x:V} {u t:Value} (I:Inv X pins σ H s) (rx:RelV x u) (ty:TyOf X.K H x t) (e:Ff X.K t c=some b) (h:∀ tk,Q (.bool b) { s with toks:=tk }) :
  Ar (AB X.prog X.w) A (call (.builtin "isinstance") [u,c]) Q E s:=by
 cases ty with
 | non=>cases (show u=BY from rx); exact CS PySem.W.kitx_none I.kIn DJ e (fun z=>nomatch z) h
 | bl y=>cases (show u=JF y from rx); exact CS PySem.W.kitx_bool I.kIn DJ e (fun z=>nomatch z) h
 | int i=>obtain ⟨t,q⟩:=(show ∃ t,u=DP i t from rx); cases q; exact CS PySem.W.kitx_int I.kIn DJ e (fun z=>nomatch z) h
 | str y=>obtain ⟨t,q⟩:=(show ∃ t,u=Nh y t from rx); cases q; exact CS PySem.W.kitx_str I.kIn DJ e (fun z=>nomatch z) h
 | flt y=>obtain ⟨t,q⟩:=(show ∃ t,u=Nu y t from rx); cases q; exact CS PySem.W.kitx_float I.kIn DJ e (fun z=>nomatch z) h
 | @lst a xs ea =>
  cases (show u=Value.ref a from rx)
  obtain ⟨_,_,n,_,h1⟩:=(show ObjOk X.prog X.w H s.heap a (.lst xs) from I.hok a _ ea)
  exact CS Lg I.kIn ⟨_,h1,rfl⟩ e (fun z=>nomatch z) h
 | @frz a ob xs ea =>
  cases (show u=Value.ref a from rx)
  obtain ⟨_,_,_,n,_,h1⟩:=(show ObjOk X.prog X.w H s.heap a (.frz ob (.lst xs)) from I.hok a _ ea)
  exact CS Lg I.kIn ⟨_,h1,rfl⟩ e (fun z=>nomatch z) h
 | @tup a xs ea =>
  cases (show u=Value.ref a from rx)
  obtain ⟨_,_,_,p⟩:=(show ObjOk X.prog X.w H s.heap a (.tup xs) from I.hok a _ ea)
  obtain ⟨o,h1,h2,_⟩:=p
  exact CS PySem.W.kitx_tuple I.kIn ⟨o,h1,h2⟩ e (fun z=>nomatch z) h
 | @dK a kvs ea =>
  cases (show u=Value.ref a from rx)
  obtain ⟨_,_,vs,_,p⟩:=(show ObjOk X.prog X.w H s.heap a (.dK kvs) from I.hok a _ ea)
  obtain ⟨o,es,ep,h1,h2,_⟩:=p
  exact CS Lh I.kIn ⟨o,h1,h2.1⟩ e (fun z=>nomatch z) h
 | @dT a kvs ea =>
  cases (show u=Value.ref a from rx)
  obtain ⟨_,_,xs,_,o,es,ep,h1,h2,_⟩:=(show ObjOk X.prog X.w H s.heap a (.dT kvs) from I.hok a _ ea)
  exact CS Lh I.kIn ⟨o,h1,h2.1⟩ e (fun z=>nomatch z) h
 | @ins a C dx fs ea cl ha hn htk hm =>
  cases (show u=Value.ref a from rx)
  obtain ⟨mA,O,_⟩:=aIf I.hok ea
  obtain ⟨od,J,_⟩:=O.look
  exact CS (PySem.W.kitx_own (cl.get _) cl.hd ha hn htk hm) I.kIn J e (fun z=>nomatch z) h
end
structure Room (k:Nat) (A:AY):Prop where
 hd:A.handled=none
 dp:A.depth + 3 * k + 5 < recursionLimit
 un:A.units + 16 * k + 200 < cLine
theorem Room.mono {j k:Nat} {A:AY} (r:Room k A) (h:j<=k):Room j A:=⟨r.hd,by have:=r.dp; lia,by have:=r.un; lia⟩
theorem Room.deeper {k:Nat} {A:AY} (r:Room (k + 1) A) (env:Env):Room k (A.deeper env) :=
 ⟨r.hd,by have:=r.dp; show A.depth + 1 + 3 * k + 5 < _; lia,by have:=r.un; show A.units + 3 + 16 * k + 200 < _; lia⟩
theorem Room.in1 {k:Nat} {A:AY} (r:Room (k + 1) A):Room k A.in1 :=
 ⟨r.hd,by have:=r.dp; show A.depth + 3 * k + 5 < _; lia,by have:=r.un; show A.units + 1 + 16 * k + 200 < _; lia⟩
theorem aEK {A:AY} {C:Addr} {us:List Value} {kw:List (Str×Value)}:(A.under (.builtin "type.__call__" ⟨.ref C :: us,kw⟩)).depth=A.depth + 1:=by
 first | rfl | simp [LA,Code.weight,Code.isCreation,Code.isGuard,Code.isCaller,Nv,LB,guardIds]
theorem aEL {A:AY} {C:Addr} {us:List Value} {kw:List (Str×Value)}:(A.under (.builtin "type.__call__" ⟨.ref C :: us,kw⟩)).units=A.units + 1:=by
 first | rfl | simp [LA,Code.cUnits,Nv,LB]
theorem Room.make {k:Nat} {A:AY} (r:Room (k + 1) A) (C:Addr) (us:List Value) (kw:List (Str×Value)):Room k (A.under (.builtin "type.__call__" ⟨.ref C :: us,kw⟩)) :=
 ⟨r.hd,by have:=r.dp; rw [aEK]; lia,by have:=r.un; rw [aEL]; lia⟩
theorem Room.depth {k:Nat} {A:AY} (r:Room k A):A.depth < recursionLimit:=by have:=r.dp; lia
theorem Room.units {k:Nat} {A:AY} (r:Room k A):A.units + 64 < cLine:=by have:=r.un; lia
noncomputable def tNil:TA:=fun _ H Q=>Q [] H
noncomputable def aKB (ta:TE) (tr:TA):TA:=fun σ H Q=>ta σ H fun x H1=>tr σ H1 fun xs H2=>Q (x :: xs) H2
section
variable {X:Cx} {e:Expr} {es:List Expr} {te:TE} {t:TA} {pos:Pos}
theorem zE:PA X [] tNil:=fun _ _ _ _ H Q I h=>HX ⟨[],H,I,.nil,h⟩
theorem zB (ha:PE X e te) (hr:PA X es t) (hs:AW (e :: es) X.env=(false,eval e X.env) :: AW es X.env:=by rfl):PA X (e :: es) (aKB te t):=by
 intro pos pins s σ H Q I h
 rw [hs]
 show Ar _ _ (spliced ((false,eval e X.env) :: Fe pos (AW es X.env))) _ _ s
 refine Hj (thn (ha pins s σ H _ I h) fun u s1 ⟨x,H1,I1,r1,q1⟩=>?_)
 exact thn (hr pos pins s1 σ H1 _ I1 q1) fun us s2 ⟨xs,H2,I2,r2,q2⟩=>⟨x :: xs,H2,I2,.cons r1 r2,q2⟩
noncomputable def tTup (t:TA):TE:=fun σ H Q=>t σ H fun xs H1=>xs.length<=sizeLine/\∀ p,H1 p=none->Q (.ref p) (upd H1 p (.tup xs))
noncomputable def tLst (t:TA):TE:=fun σ H Q=>t σ H fun xs H1=>xs.length<=sizeLine/\∀ p,H1 p=none->Q (.ref p) (upd H1 p (.lst xs))
theorem yU {x1} (h:PA X es t):PE X (.Tuple es x1 pos) (tTup t):=by
 intro pins s σ H Q I hq
 refine Kd (thn (h pos pins s σ H _ I hq) fun us s1 ⟨xs,H1,I1,r,z,q⟩=>⟨by rw [<- r.length]; exact z,?_⟩)
 have hf:H1 s1.heap.objs.size=none:=I1.hok.fresh (Ak _)
 refine ⟨.ref s1.heap.objs.size,upd H1 s1.heap.objs.size (.tup xs),I1.laid (t':=s1.toks) (fun b u e=>Ac _ e) (Ak _) ?_,rfl,q _ hf⟩
 exact ⟨z,us,r,⟨_,Ag _ rfl,rfl,_,rfl⟩⟩
theorem yV (h:PA X es t):PE X (.List es pos) (tLst t):=by
 intro pins s σ H Q I hq
 refine wpAny_List_spliced (thn (h pos pins s σ H _ I hq) fun us s1 ⟨xs,H1,I1,r,z,q⟩=>⟨by rw [<- r.length]; exact z,?_⟩)
 have hf:H1 s1.heap.objs.size=none:=I1.hok.fresh (Ak _)
 refine ⟨.ref s1.heap.objs.size,upd H1 s1.heap.objs.size (.lst xs),I1.laid (t':=s1.toks) (fun b u e=>Ac _ e) (Ak _) ?_,rfl,q _ hf⟩
 exact ⟨z,us,0,r,Ag _ rfl⟩
end
noncomputable abbrev Sp:=List V->Hp->VK->XK->Prop
noncomputable abbrev CXT:=List Env->Hp->Ad->XK->Value->Ad->Prop
structure Env0 (P:At) (w:AV) (K:Af) (mg:Str->Option Value) (base:Heap) (A:AY) (outer:List Env) (s:Ad) (H:Hp):Prop where
 frames:A.frames=some outer
 mod:Mod K mg base
 bs:∀ b o,base.get? b=some o->s.heap.get? b=some o/\H b=none
 bsz:base.objs.size<=s.heap.objs.size
 funs:s.heap.FunFrames base outer
 frf:∀ b∈frs outer,H b=none
 hok:HOk P w H s.heap
 bare:Ip s.gens
noncomputable def CE (outer:List Env) (P:At) (w:AV) (H:Hp) (s:Ad) (Q:VK) (u:Value) (s':Ad):Prop :=
 ∃ v H',s'.os=s.os/\Ip s'.gens/\Un (frs outer) [] H H' s.heap s'.heap/\HOk P w H' s'.heap/\RelV v u/\Q v H'
noncomputable def CR (CX:CXT) (outer:List Env) (P:At) (w:AV) (H:Hp) (s:Ad) (Q:VK) (E:XK) (r:JV) (s':Ad):Prop :=
 match r with
 | .ok (.ret u)=>CE outer P w H s Q u s'
 | .ok _=>False
 | .error e=>CX outer H s E e s'
structure FnOk (P:At) (w:AV) (K:Af) (mg:Str->Option Value) (base:Heap) (CX:CXT) (k:Nat) (f:Addr) (fd:Bu) (ps:List Str) (sp:Sp):Prop where
 len:∀ vs H Q E,sp vs H Q E->vs.length=ps.length
 run:∀ (A:AY) (outer:List Env) (s:Ad) (H:Hp) (args:Args) (us:List Value) (vs:List V) (Q:VK) (E:XK),Room k A->Env0 P w K mg base A outer s H->Mg s fd args (ps.zip us)->Vals vs us->sp vs H Q E ->
  CA (AB P w) A (.call (.ref f) args) (CR CX outer P w H s Q E) s
theorem Env0.make {P:At} {w:AV} {K:Af} {mg:Str->Option Value} {base:Heap} {A:AY} {outer:List Env} {s:Ad} {H:Hp} (e:Env0 P w K mg base A outer s H) (C:Addr) (us:List Value) (kw:List (Str×Value)) :
  Env0 P w K mg base (A.under (.builtin "type.__call__" ⟨.ref C :: us,kw⟩)) outer s H:=⟨by first | exact e.frames | (simpa [LA,Code.envs,LB,pushEnvs] using e.frames),e.mod,e.bs,e.bsz,e.funs,e.frf,e.hok,e.bare⟩
theorem Env0.in1 {P:At} {w:AV} {K:Af} {mg:Str->Option Value} {base:Heap} {A:AY} {outer:List Env} {s:Ad} {H:Hp} (e:Env0 P w K mg base A outer s H) :
  Env0 P w K mg base A.in1 outer s H:=⟨e.frames,e.mod,e.bs,e.bsz,e.funs,e.frf,e.hok,e.bare⟩
section
variable {X:Cx} {pins:List (Addr×Obj)} {σ:St} {H:Hp} {s s':Ad}
theorem Inv.env0 (I:Inv X pins σ H s):Env0 X.prog X.w X.K X.mg X.base X.A X.stack s H :=
 ⟨I.ok.frames,I.ok.mod,I.bs,Ay I.ok.bsz I.sz,I.stack,I.stkFree,I.hok,I.bare⟩
theorem Inv.after {Q:VK} {u:Value} (I:Inv X pins σ H s) (h:CE X.stack X.prog X.w H s Q u s'):EP X pins σ Q u s':=by
 obtain ⟨v,H',os,bare,un,hok,r,q⟩:=h
 obtain ⟨hh,g,d,t,os'⟩:=s'
 obtain rfl:os'=s.os:=os
 exact ⟨v,H',I.call (h':=hh) (g':=g) (d':=d) (t':=t) (ch:=[]) un hok bare (fun b z=>absurd z (by simp)),r,q⟩
end
noncomputable def aKC (sp:Sp) (dvs:List V) (E:XK) (t:TA):TE:=fun σ H Q=>t σ H fun vs H1=>sp (vs++dvs) H1 Q E
noncomputable def Binds (K:Af) (fd:Bu) (ps:List Str) (ds:List Value):Prop :=
 ∀ (s:Ad) (us:List Value),K.In s.heap->(us++ds).length=ps.length->Mg s fd ⟨us,[]⟩ (ps.zip (us++ds))
theorem Binds.all {K:Af} {fd:Bu} {ps:List Str} (h:∀ us:List Value,us.length=ps.length->bindArgs fd ⟨us,[]⟩=pure (ps.zip us)):Binds K fd ps []:=fun s us _ hl=>by
 rw [AM] at hl ⊢
 exact .of_eq (h us hl)
noncomputable def aF7 (CX:CXT) (X:Cx) (E:XK):Prop:=∀ (pins:List (Addr×Obj)) (σ:St) (H:Hp) (s:Ad) (e:Value) (s':Ad),Inv X pins σ H s->CX X.stack H s E e s'->X.xe e s'
section
variable {X:Cx} {CX:CXT} {k:Nat} {f C:Addr} {fd:Bu} {ps:List Str} {sp:Sp} {dvs:List V} {ds:List Value} {E:XK} {x m:Str} {p pos apos:Pos} {e o:Expr} {es:List Expr} {ta:TE} {t:TA}
theorem aKD {pins:List (Addr×Obj)} {σ:St} {H:Hp} {s:Ad} {Q:VK} {us:List Value} {vs:List V} (F:FnOk X.prog X.w X.K X.mg X.base CX k f fd ps sp) (hr:Room k X.A) (hb:Binds X.K fd ps ds) (hd:Vals dvs ds) (hx:aF7 CX X E)
  (I:Inv X pins σ H s) (r:Vals vs us) (h:sp (vs++dvs) H Q E):Ar (AB X.prog X.w) X.A (call (.ref f) us) (EP X pins σ Q) X.xe s:=by
 have r2:Vals (vs++dvs) (us++ds):=r.append hd
 have hl:(us++ds).length=ps.length:=by rw [<- r2.length]; exact F.len _ _ _ _ h
 refine Fx (Dh (F.run X.A X.stack s H ⟨us,[]⟩ (us++ds) (vs++dvs) Q E hr I.env0 (hb s us I.kIn hl) r2 h) fun r s' hq=>?_)
 cases r with
 | error e=>exact hx pins σ H s e s' I hq
 | ok fl =>
  cases fl with
  | ret u=>exact I.after hq
  | next=>exact Dz hq
  | brk=>exact Dz hq
  | cont=>exact Dz hq
theorem aIg (F:FnOk X.prog X.w X.K X.mg X.base CX k f fd ps sp) (hr:Room k X.A) (hg:Gl X x) (hm:X.mg x=some (.ref f)) (hk:AI X.K (.ref f)=true) (hb:Binds X.K fd ps ds) (hd:Vals dvs ds) (hx:aF7 CX X E)
  (ha:PA X (e :: es) t) (hdb:(x == ("__debug__":Str))=false:=by decide) (he:AW (e :: es) X.env=(false,eval e X.env) :: AW es X.env:=by rfl) (hpl:(Fe pos (AW es X.env)).any (·.1)=false:=by rfl) :
  PE X (.Call (.Name x p) (e :: es) [] pos) (aKC sp dvs E t):=by
 intro pins s σ H Q I h
 refine Cb (ji I hg hm ?_ hdb)
 refine FI (h₀:=X.base) I.ok.mod.kin hk (thn (ha pos pins s σ H _ I h) fun us s1 ⟨vs,H1,I1,r,q⟩=>⟨I1.kIn,?_⟩) he hpl
 exact aKD F hr hb hd hx I1 r q
end
section
variable {X:Cx} {CX:CXT} {k:Nat} {f C:Addr} {fd:Bu} {ps ks:List Str} {sp:Sp} {E:XK} {x m:Str} {p pos apos kpos:Pos} {e o:Expr} {es:List Expr} {kws:List Jh} {te ta:TE} {t tk:TA} {nm:Option Str}
variable {g:List Value->List Value->List Value} {gV:List V->List V->List V}
end
structure FnScope (N P:List Str) (sc:Scope):Prop where
 kind:sc.kind=.function
 co:sc.isCoroutine=false
 gen:sc.isGenerator=false
 nd:N.Nodup
 pre:N.take P.length=P
 par:∀ x∈P,sc.names.lookup x=some .local\/sc.names.lookup x=some .cell
 nofree:∀ y∈sc.names,y.2≠.free
theorem aBx {Hk:Str->Option Ej} {x:Str}:∀ {binds:List (Str×Value)} {m:Str->Option Value},(∀ v,(x,v) ∉ binds)->Nw Hk binds m x=m x
 | [],_,_=>rfl
 | (n,v) :: r,m,h=>by
  unfold Nw
  rw [aBx fun w hw=>h w (Al _ hw)]
  split
  ·have:x≠n:=by rintro rfl; exact h v Am
   simp [this]
  ·rfl
theorem aBy {Hk:Str->Option Ej} {x:Str}:∀ {binds:List (Str×Value)} {m:Str->Option Value},(∀ v,(x,v) ∉ binds)->Nx Hk binds m x=m x
 | [],_,_=>rfl
 | (n,v) :: r,m,h=>by
  unfold Nx
  rw [aBy fun w hw=>h w (Al _ hw)]
  split
  ·rfl
  ·have:x≠n:=by rintro rfl; exact h v Am
   simp [this]
theorem aBz {Hk:Str->Option Ej} {x:Str} {v:Value}:∀ {P:List Str} {vs:List Value} {i:Nat} {m:Str->Option Value},P.Nodup->P[i]?=some x->vs[i]?=some v->Hk x=some .local ->
  Nw Hk (P.zip vs) m x=some v
 | [],_,_,_,_,h,_,_=>by simp at h
 | _ :: _,[],_,_,_,_,h,_=>by simp at h
 | p :: P,w :: vs,0,m,nd,h1,h2,hk=>by
  simp at h1 h2; subst h1; subst h2
  show Nw Hk ((p,w) :: P.zip vs) m p=_
  unfold Nw
  rw [aBx fun v hv=>(Dv.mp nd).1 (El hv).1,if_pos hk]
  simp
 | p :: P,w :: vs,i + 1,m,nd,h1,h2,hk=>by
  show Nw Hk ((p,w) :: P.zip vs) m x=_
  unfold Nw
  exact aBz (i:=i) (Dv.mp nd).2 (by simpa using h1) (by simpa using h2) hk
theorem aC0 {Hk:Str->Option Ej} {x:Str} {v:Value}:∀ {P:List Str} {vs:List Value} {i:Nat} {m:Str->Option Value},P.Nodup->P[i]?=some x->vs[i]?=some v->Hk x≠some .local ->
  Nx Hk (P.zip vs) m x=some v
 | [],_,_,_,_,h,_,_=>by simp at h
 | _ :: _,[],_,_,_,_,h,_=>by simp at h
 | p :: P,w :: vs,0,m,nd,h1,h2,hk=>by
  simp at h1 h2; subst h1; subst h2
  show Nx Hk ((p,w) :: P.zip vs) m p=_
  unfold Nx
  rw [aBy fun v hv=>(Dv.mp nd).1 (El hv).1,if_neg hk]
  simp
 | p :: P,w :: vs,i + 1,m,nd,h1,h2,hk=>by
  show Nx Hk ((p,w) :: P.zip vs) m x=_
  unfold Nx
  exact aC0 (i:=i) (Dv.mp nd).2 (by simpa using h1) (by simpa using h2) hk
noncomputable def aAp (N:List Str) (vs:List V):St:=vs.map some++Fg (N.length - vs.length) none
noncomputable def cxOf (CX:CXT) (P:At) (w:AV) (K:Af) (mg:Str->Option Value) (base:Heap) (N:List Str) (qual:Str) (scope:Scope) (f:Addr) (cd:Value) (A:AY) (outer:List Env) (s:Ad) (H:Hp) (E:XK):Cx where
 prog:=P
 w:=w
 K:=K
 mg:=mg
 base:=base
 A:=A.deeper (JW qual scope s.heap.objs.size f cd)
 N:=N
 s₀:=s
 H₀:=H
 env:=JW qual scope s.heap.objs.size f cd
 outer:=outer
 stack:=JW qual scope s.heap.objs.size f cd :: outer
 ex:=[]
 calm:=true
 fn:=fun _=>true
 pn:=[]
 xe:=fun e s'=>Ar (AB P w) (A.deeper (JW qual scope s.heap.objs.size f cd)) (leaving (JW qual scope s.heap.objs.size f cd) e) (fun _ s''=>CX outer H s E e s'') (fun e' s''=>CX outer H s E e' s'') s'
theorem aDb {sc:Scope} {n:Nat} {x:Str} (h:sc.names.lookup x=some .cell):∃ c,(Cr n sc.names []).lookup x=some c:=by
 have q:=IY sc.names n [] (.inl h)
 exact Option.isSome_iff_exists.mp q
theorem aF8 {CX:CXT} {P:At} {w:AV} {K:Af} {mg:Str->Option Value} {base:Heap} {N ps:List Str} {qual:Str} {scope:Scope} {f:Addr} {cd:Value} {A:AY} {outer:List Env} {s s1:Ad} {H:Hp} {E:XK} {us:List Value} {vs:List V}
  (S:FnScope N ps scope) (hd:A.handled=none) (e0:Env0 P w K mg base A outer s H) (hl:vs.length=ps.length) (r:Vals vs us)
  (x:InCallC s s.heap.objs.size (Nw (JW qual scope s.heap.objs.size f cd).kindOf (ps.zip us) fun _=>none) (Cr (s.heap.objs.size + 1) scope.names []) (Nx (JW qual scope s.heap.objs.size f cd).kindOf (ps.zip us) fun _=>none) s1) :
  Inv (cxOf CX P w K mg base N qual scope f cd A outer s H E) [] (aAp N vs) H s1:=by
 have hpl:ps.length<=N.length:=by have:=congrArg Mh S.pre; rw [Bz] at this; lia
 obtain ⟨h1,tk,rfl,hk⟩:=x.done
 have noA:∀ b:Addr,b ∉ (cxOf CX P w K mg base N qual scope f cd A outer s H E).ex:=fun b z=>absurd (show b∈([]:List Addr) from z) (by simp)
 refine ⟨⟨e0.mod,S.kind,rfl,rfl,Ak _,fun y z c h1 h2=>?_,fun y hy=>?_,fun y c _ h=>?_,fun _=>hd,Around.frames_deeper e0.frames,.inr ⟨rfl,rfl⟩,fun b z=>absurd z (noA b),e0.bs,e0.bsz,fun b _ _=>noA b,fun b z=>absurd z (noA b),e0.funs,e0.frf⟩,
  rfl,e0.bare,Un.kept hk,⟨_,x.toInCall.ns,fun i y v h1 h2 h3=>?_⟩,fun y c h=>⟨_,x.cell y c h⟩,e0.hok.fresh (Ak _),fun y c h=>?_,fun p hp=>absurd (show p∈([]:List (Addr×Obj)) from hp) (by simp),e0.hok.kept hk,?_⟩
 ·exact name_of_addr x.apart (Bn h1) (Bn h2)
 ·have hy:scope.names.lookup y=some .cell\/scope.names.lookup y=some .free:=hy
  rcases hy with hy | hy
  ·exact aDb hy
  ·exact absurd rfl (S.nofree _ (Bn hy))
 ·exact EL (x.above y c (Bn h))
 ·have hi:i < vs.length:=by
   unfold aAp at h2
   by_cases hi:i < vs.length
   ·exact hi
   ·rw [List.getElem?_append_right (by simpa using hi)] at h2
    rw [List.getElem?_replicate] at h2
    split at h2 <;> cases h2
  have ha:vs[i]?=some v:=by
   unfold aAp at h2
   rw [List.getElem?_append_left (by simpa using hi),AO] at h2
   cases e:vs[i]? with
   | none=>rw [e] at h2; cases h2
   | some a=>rw [e] at h2; cases h2; rfl
  obtain ⟨u,hu,rv⟩:=r.get ha
  have hp:ps[i]?=some y:=by
   rw [<- S.pre,List.getElem?_take_of_lt (by lia)]; exact h1
  have ndP:ps.Nodup:=by rw [<- S.pre]; exact S.nd.sublist (Li _ _)
  refine ⟨u,rv,?_⟩
  rcases S.par y (Au hp) with k | k
  ·exact .inl ⟨k,aBz ndP hp hu k⟩
  ·obtain ⟨c,e⟩:=aDb (n:=s.heap.objs.size + 1) k
   refine .inr ⟨.inl k,c,e,?_⟩
   have q:=x.cell y c e
   rw [aC0 ndP hp hu (by show scope.names.lookup y≠_; rw [k]; decide)] at q
   exact q
 ·exact e0.hok.fresh (EL (x.above y c (Bn h)))
 ·unfold aAp
  show _=N.length
  rw [Ai,Ah,EM]
  lia
theorem aKE {CX:CXT} {P:At} {w:AV} {K:Af} {mg:Str->Option Value} {base:Heap} {k:Nat} {f:Addr} {name qual:Str} {params:Arguments} {body:List Stmt} {scope:Scope} {dV kV doc pm cdv ct oc:Value} {an od:Option Addr}
  {osl:Array (Option Value)} {N ps:List Str} {sp:Sp} (lk:K.lookup f=some ⟨oc,od,.func (AZ name qual params body scope dV kV doc pm an cdv ct),osl⟩) (hcd:AR K cdv qual=true) (S:FnScope N ps scope)
  (len:∀ vs H Q E,sp vs H Q E->vs.length=ps.length)
  (hbody:∀ (A:AY) (outer:List Env) (s:Ad) (H:Hp) (vs:List V) (Q:VK) (E:XK),Room k (A.deeper (JW qual scope s.heap.objs.size f cdv))->sp vs H Q E ->
   ∃ t,PSs (cxOf CX P w K mg base N qual scope f cdv A outer s H E) body t/\t { nx:=fun _ H'=>Q .non H',rt:=Q } (aAp N vs) H) :
  FnOk P w K mg base CX (k + 1) f (AZ name qual params body scope dV kV doc pm an cdv ct) ps sp:=by
 refine ⟨len,fun A outer s H args us vs Q E hr e0 hb r hsp=>?_⟩
 have hl:=len _ _ _ _ hsp
 have KX:K.In s.heap:=e0.mod.kin.keeps fun b o e=>(e0.bs b o e).1
 have lim:s.heap.NoLimit:=e0.mod.nolimit.keeps fun b o e=>(e0.bs b o e).1
 have hkind:∀ y∈ps.zip us,scope.names.lookup y.1=some .local\/(scope.names.lookup y.1=some .cell/\((Cr (s.heap.objs.size + 1) scope.names []).lookup y.1).isSome=true):=fun ⟨n,v⟩ hy=>by
  rcases S.par n (El hy).1 with q | q
  ·exact .inl q
  ·exact .inr ⟨q,IY _ _ _ (.inl q)⟩
 refine codeAny_call_function hr.depth (KX _ _ lk) rfl S.co S.gen rfl (PySem.W.codeRec_of KX hcd) (hb _ _ _ _ ?_)
 refine wpAny_newFunctionEnv_cells S.kind hkind fun env he s1 x=>?_
 subst he
 refine ⟨lim.keeps x.toInCall.keep,codeAny_func ?_⟩
 obtain ⟨t,ht,hq⟩:=hbody A outer s H vs Q E (hr.deeper _) hsp
 have I:Inv (cxOf CX P w K mg base N qual scope f cdv A outer s H E) [] (aAp N vs) H s1:=aF8 S hr.hd e0 hl r x
 refine AT (ht [] s1 (aAp N vs) H _ I hq) (fun fl s' hs=>?_) fun e s' hs=>hs
 have fin:∀ {σ':St} {H':Hp} {v:V} {u:Value},Inv (cxOf CX P w K mg base N qual scope f cdv A outer s H E) [] σ' H' s'->RelV v u->Q v H'->CE outer P w H s Q u s' :=
  fun {σ' H' v u} J rv q=>⟨v,H',J.os,J.bare,J.base,J.hok,rv,q⟩
 cases fl with
 | ret u =>
  obtain ⟨v,σ',H',J,rv,q⟩:=hs
  exact fin J rv q
 | next =>
  obtain ⟨σ',H',J,q⟩:=hs
  exact fin (v:=V.non) (u:=BY) J rfl q
 | brk =>
  obtain ⟨_,_,_,q⟩:=hs
  exact Dz q
 | cont =>
  obtain ⟨_,_,_,q⟩:=hs
  exact Dz q
section
variable {X:Cx} {x:Str} {p pos:Pos} {e:Expr} {es:List Expr} {t:TA} {id T:String} {r:List V->Hp->VK->Prop}
noncomputable def tCB (r:List V->Hp->VK->Prop) (t:TA):TE:=fun σ H Q=>t σ H fun vs H1=>r vs H1 Q
theorem zY (hc:qW X (.builtin id) r) (hg:Gl X x) (hm:X.mg x=none) (hv:BW x=some (.builtin id)) (ha:PA X (e :: es) t) (hn:x≠"__name__":=by decide) (hdb:(x == ("__debug__":Str))=false:=by decide)
  (he:AW (e :: es) X.env=(false,eval e X.env) :: AW es X.env:=by rfl) (hpl:(Fe pos (AW es X.env)).any (·.1)=false:=by rfl):PE X (.Call (.Name x p) (e :: es) [] pos) (tCB r t):=by
 intro pins s σ H Q I h
 refine Cb (qT I hg hm hv ?_ hn hdb)
 exact Gk (thn (ha pos pins s σ H _ I h) fun us s1 ⟨vs,H1,I1,r1,q1⟩=>hc pins s1 σ H1 vs us Q I1 r1 q1) he hpl
theorem yj (hc:qW X (.type T) r) (hg:Gl X x) (hm:X.mg x=none) (hv:BW x=some (.type T)) (ha:PA X (e :: es) t) (hn:x≠"__name__":=by decide) (hdb:(x == ("__debug__":Str))=false:=by decide)
  (he:AW (e :: es) X.env=(false,eval e X.env) :: AW es X.env:=by rfl) (hpl:(Fe pos (AW es X.env)).any (·.1)=false:=by rfl):PE X (.Call (.Name x p) (e :: es) [] pos) (tCB r t):=by
 intro pins s σ H Q I h
 refine Cb (qT I hg hm hv ?_ hn hdb)
 exact Cz (thn (ha pos pins s σ H _ I h) fun us s1 ⟨vs,H1,I1,r1,q1⟩=>hc pins s1 σ H1 vs us Q I1 r1 q1) he hpl
theorem aEM (hc:qW X (.type T) r) (hg:Gl X x) (hm:X.mg x=none) (hv:BW x=some (.type T)) (hn:x≠"__name__":=by decide) (hdb:(x == ("__debug__":Str))=false:=by decide) :
  PE X (.Call (.Name x p) [] [] pos) (tCB r tNil):=by
 intro pins s σ H Q I h
 refine Cb (qT I hg hm hv ?_ hn hdb)
 exact PyProof.Rows.callWith_type0 (hc pins s σ H [] [] Q I .nil h)
end
end L2
namespace HT
open PySem PyProof.Rows
theorem rcLt_int (A:AY) (s:Ad) (a:Int) (t:Tok) (c:Int) (u:Tok) (prog:At) (w:AV) (E:Value->Ad->Prop) (Q:Value->Ad->Prop) (h:Q (.bool (decide (a < c))) s) :
  Ar (AB prog w) A (richCompare .Lt (.int a t) (.int c u)) Q E s :=
 (PyProof.Rows.lt_int h:Ar (AB prog w) A (DQ .Lt (.int a t) (.int c u)) Q E s)
section
open PySem.SeqAt
open PySem.AutoSeq1 (wpAny_loadPart')
open PySem.MeetsSeq PySem.MeetsSeq2 PySem.MeetsSeq3
end
section
variable {prog:At} {w:AV} {A:AY} {E:Value->Ad->Prop} {s:Ad}
theorem cat_tup {t b:Addr} {vs ws:List Value} {Q:Value->Ad->Prop} (ht:IsTup s.heap t vs.toArray) (hb:IsTup s.heap b ws.toArray) (hv:vs≠[])
  (h1:ws=[]->Q (.ref t) s) (h2:ws≠[]->Q (.ref s.heap.objs.size) { s with heap:=s.heap.push { cls:=.type "tuple",data:=.seq (vs++ws).toArray } })
  (hsz:vs.length + ws.length<=sizeLine):Ar (AB prog w) A (EY .Add (.ref t) (.ref b)) Q E s:=by
 obtain ⟨⟨cls,dd,data,sl⟩,ho,hc,n,hd⟩:=id ht
 obtain ⟨⟨cls2,dd2,data2,sl2⟩,ho2,hc2,n2,hd2⟩:=id hb
 simp only at hc hd hc2 hd2
 subst hc hd hc2 hd2
 have e:vs.toArray++ws.toArray=(vs++ws).toArray:=by simp
 by_cases hw:ws=[]
 ·exact Ji ⟨_,ho,rfl⟩ ⟨_,ho2,rfl⟩ Gv Iu EF Ev (Em _ _)
   (tuple_addW1 t b vs.toArray ws.toArray n n2 dd dd2 sl sl2 (by simpa using hv) (by simp [hw])) ⟨ho,ho2,h1 hw⟩
 ·refine Ji ⟨_,ho,rfl⟩ ⟨_,ho2,rfl⟩ Gv Iu EF Ev (Em _ _)
   (tuple_addW2 t b vs.toArray ws.toArray n n2 dd dd2 sl sl2 (by simpa using hv) (by simpa using hw) (by rw [Ao,Ao]; exact hsz)) ⟨ho,ho2,?_⟩
  rw [e]
  exact h2 hw
theorem aEN {v:Value} {o:Option Int} {Q:Option Int->Ad->Prop} (p:IsPart v o) (h:Q o s):Ar (AB prog w) A (Builtin.Slice.slicePartIndex v) Q E s:=by
 cases p with
 | none=>exact JX h
 | int i t=>exact slicePart_int h
theorem aH9 (xs:Array Value) (i k:Nat):((BQ k).filterMap fun (m:Nat)=>xs[((i:Int) + (m:Int) * 1).toNat]?).toArray=((xs.toList.drop i).take k).toArray:=by
 have e:(fun (m:Nat)=>xs[((i:Int) + (m:Int) * 1).toNat]?)=fun m=>xs[i + m]?:=by
  funext m
  have:((i:Int) + (m:Int) * 1).toNat=i + m:=by lia
  rw [this]
 rw [e]
 have:=pick_run xs i k
 rw [KD] at this
 have e2:((fun x=>xs[x]?) ∘ fun x=>i + x)=fun m=>xs[i + m]?:=rfl
 rw [e2] at this
 rw [this]
end
end HT
namespace L2
open PySem PySem.Spec PyProof.Rows
noncomputable abbrev TO:=St->Hp->(Option Int->Hp->Prop)->Prop
noncomputable def PO (X:Cx) (e:Option Expr) (t:TO):Prop :=
 ∀ (pins:List (Addr×Obj)) (s:Ad) (σ:St) (H:Hp) (Q:Option Int->Hp->Prop),Inv X pins σ H s->t σ H Q ->
  Ar (AB X.prog X.w) X.A (evalPart e X.env) (fun u s'=>∃ o H',Inv X pins σ H' s'/\IsPart u o/\Q o H') X.xe s
noncomputable def aLZ (t:TE):TO:=fun σ H Q=>t σ H fun x H1=>∃ i,x=.int i/\Q (some i) H1
theorem yb {ns:List Int}:∀ {us:List Value},Vals (ns.map V.int) us->EG us ns:=by
 induction ns with
 | nil=>intro us r; rw [BX] at r; cases r; exact .nil
 | cons n ns ih =>
  intro us r
  rw [AA] at r
  cases r with
  | cons r1 r2 =>
   obtain ⟨t,e⟩:=r1
   subst e
   exact .cons n t (ih r2)
section
variable {X:Cx} {e:Expr} {te:TE} {lo hi:Option Expr} {tl th:TO} {pos p2:Pos}
theorem aIh (h:PE X e te):PO X (some e) (aLZ te):=by
 intro pins s σ H Q I hw
 rw [evalPart_some]
 refine thn (h pins s σ H _ I hw) fun u s1 ⟨x,H1,I1,r1,q1⟩=>?_
 obtain ⟨i,rfl,q⟩:=q1
 obtain ⟨t,rfl⟩:=r1
 exact ⟨some i,H1,I1,.int i t,q⟩
noncomputable def aLa (K:Af):R2:=fun x y H Q=>∃ a b xs ys,x=.ref a/\y=.ref b/\SqT K H a xs/\SqT K H b ys/\xs≠[]/\xs.length + ys.length<=sizeLine /\
 (ys=[]->Q (.ref a) H)/\(ys≠[]->∀ p,H p=none->Q (.ref p) (upd H p (.tup (xs++ys))))
theorem Vals.nil_iff {xs:List V} {us:List Value} (r:Vals xs us):us=[]↔xs=[]:=by
 cases r with
 | nil=>simp
 | cons _ _=>simp
theorem aIi:OpR X (EY .Add) (aLa X.K):=by
 intro pins s σ H x y v u Q I rx ry h
 obtain ⟨a,b,xs,ys,rfl,rfl,ha,hb,hx,hz,q1,q2⟩:=h
 cases rx
 cases ry
 obtain ⟨its,r1,p1,_⟩:=I.tuple ha
 obtain ⟨its2,r2,p2,_⟩:=I.tuple hb
 refine HT.cat_tup p1 p2 (fun z=>hx (r1.nil_iff.mp z)) (fun z=>⟨.ref a,H,I,rfl,q1 (r2.nil_iff.mp z)⟩) (fun z=>?_) (by rw [<- r1.length,<- r2.length]; exact hz)
 refine ⟨.ref s.heap.objs.size,_,I.laid (t':=s.toks) (o:=.tup (xs++ys)) (fun b ob q=>Ac _ q) (Ak _) ?_,rfl,q2 (fun w=>z (r2.nil_iff.mpr w)) _ (I.hok.fresh (Ak _))⟩
 exact ⟨by rw [Ai]; exact hz,_,r1.append r2,KB _ _⟩
end
noncomputable def ixN (n:Nat) (i:Int):Option Nat:=if 0<=i then (if i < n then some i.toNat else none) else if -(n:Int)<=i then some (i + n).toNat else none
noncomputable def atI {α:Type} (xs:List α) (i:Int):Option α:=(ixN xs.length i).bind fun j=>xs[j]?
theorem aIj {n:Nat} {i:Int} {j:Nat} (h:ixN n i=some j):seqIndex? i n=some j/\j < n/\-(n:Int)<=i/\i < n:=by
 unfold ixN at h
 by_cases h0:0<=i
 ·rw [if_pos h0] at h
  by_cases h1:i < n
  ·rw [if_pos h1] at h
   have e:i.toNat=j:=Ck h
   exact ⟨by rw [seqIndex_of h0 h1,e],by lia,by lia,h1⟩
  ·rw [if_neg h1] at h; cases h
 ·rw [if_neg h0] at h
  by_cases h1:-(n:Int)<=i
  ·rw [if_pos h1] at h
   have e:(i + n).toNat=j:=Ck h
   exact ⟨by rw [seqIndex_neg (by lia) h1,e],by lia,h1,by lia⟩
  ·rw [if_neg h1] at h; cases h
theorem aF9 {α:Type} {xs:List α} {i:Int} {v:α} (h:atI xs i=some v):∃ j,seqIndex? i xs.length=some j/\xs[j]?=some v/\j < xs.length/\-(xs.length:Int)<=i/\i < xs.length:=by
 unfold atI at h
 cases e:ixN xs.length i with
 | none=>rw [e] at h; cases h
 | some j =>
  rw [e] at h
  obtain ⟨h1,h2,h3,h4⟩:=aIj e
  exact ⟨j,h1,h,h2,h3,h4⟩
theorem aBF {α:Type} {xs:List α} {j:Nat} {v:α} (h:xs[j]?=some v):atI xs (j:Int)=some v:=by
 have hj:j < xs.length:=(Aq.mp h).1
 have e:ixN xs.length (j:Int)=some j:=by
  unfold ixN
  rw [if_pos (by lia),if_pos (by lia)]; simp
 unfold atI; rw [e]; exact h
noncomputable def aIk (b:Expr):Prop:=∀ o i,Ke b false o i=operate [o,i] (Jj o i)
noncomputable def IxR (X:Cx) (r:R2):Prop :=
 ∀ (value slice:Expr) (pins:List (Addr×Obj)) (s:Ad) (σ:St) (H:Hp) (x y:V) (v u:Value) (Q:VK),Inv X pins σ H s->RelV x v->RelV y u->r x y H Q ->
  Ke slice false v u=operate [v,u] (Jj v u)->Ar (AB X.prog X.w) X.A (subscriptTail value slice v u) (EP X pins σ Q) X.xe s
noncomputable def MtR (X:Cx) (id:String) (r:V->List V->Hp->VK->Prop):Prop :=
 ∀ (pins:List (Addr×Obj)) (s:Ad) (σ:St) (H:Hp) (x:V) (xs:List V) (v:Value) (us:List Value) (Q:VK),Inv X pins σ H s->RelV x v->Vals xs us->r x xs H Q ->
  Ar (AB X.prog X.w) X.A (call (.builtin id) (v :: us)) (EP X pins σ Q) X.xe s
section
variable {X:Cx} {a b:Expr} {ta tb:TE} {pos:Pos}
theorem jk {r:R2} (hr:IxR X r) (ha:PE X a ta) (hb:PE X b tb) (hs:aIk b):PE X (.Subscript a b pos) (tOp r ta tb):=by
 intro pins s σ H Q I h
 exact MF (binT ha hb I h fun v u s2 x y H2 I2 rx ry q=>hr a b pins s2 σ H2 x y v u Q I2 rx ry q (hs _ _))
noncomputable def rIxL (K:Af):R2:=fun x y H Q=>∃ p xs i v,x=.ref p/\y=.int i/\SqL K H p xs/\atI xs i=some v/\Q v H
noncomputable def rIxT (K:Af):R2:=fun x y H Q=>∃ p xs i v,x=.ref p/\y=.int i/\SqT K H p xs/\atI xs i=some v/\Q v H
theorem jl:IxR X (rIxL X.K):=by
 intro value slice pins s σ H x y v u Q I rx ry h hs
 obtain ⟨p,xs,i,z,rfl,rfl,hq,he,q⟩:=h
 cases rx
 obtain ⟨t,rfl⟩:=ry
 obtain ⟨its,r,pl,hz⟩:=I.list hq
 obtain ⟨j,h1,h2,h3,h4,h5⟩:=aF9 he
 obtain ⟨w,ew,rw'⟩:=r.get h2
 have hl:=r.length
 have hn:=aDa
 have fin:EP X pins σ Q w s:=⟨z,H,I,rw',q⟩
 by_cases h0:0<=i
 ·have hj:i.toNat=j:=by
   rw [seqIndex_of h0 h5] at h1
   exact Ck h1
  exact item_listR pl.isList h0 (by lia) (by rw [hj]; simpa using ew) fin hs
 ·have hj:(i + (its.toArray.size:Int)).toNat=j:=by
   rw [seqIndex_neg (by lia) h4] at h1
   rw [Ao,<- hl]
   exact Ck h1
  exact IZ (x:=w) pl.isList.typeIs slot_list_getitem.lookup
   (wpAny_getItem_list_neg (Q:=fun r s'=>r=w/\EP X pins σ Q r s') pl.isList (by lia) (by rw [Ao] <;> lia) (by lia) (by rw [hj]; simpa using ew) ⟨rfl,fin⟩) hs
theorem aDc:IxR X (rIxT X.K):=by
 intro value slice pins s σ H x y v u Q I rx ry h hs
 obtain ⟨p,xs,i,z,rfl,rfl,hq,he,q⟩:=h
 cases rx
 obtain ⟨t,rfl⟩:=ry
 obtain ⟨its,r,pl,hz⟩:=I.tuple hq
 obtain ⟨j,h1,h2,h3,h4,h5⟩:=aF9 he
 obtain ⟨w,ew,rw'⟩:=r.get h2
 have hl:=r.length
 have hn:=aDa
 have fin:EP X pins σ Q w s:=⟨z,H,I,rw',q⟩
 exact IZ (x:=w) pl.typeIs slot_tuple_getitem.lookup
  (getItem_tuple (j:=j) (Q:=fun r s'=>r=w/\EP X pins σ Q r s') pl (by lia) (by lia) (by rw [Ao,<- hl]; exact h1) (by simpa using ew) ⟨rfl,fin⟩) hs
noncomputable def aBG:V->Bool
 | .non=>true
 | .bl _=>true
 | .int _=>true
 | .str _=>true
 | _=>false
noncomputable def eqV:V->V->Bool
 | .non,.non=>true
 | .bl a,.bl b=>a == b
 | .bl a,.int b=>(if a then 1 else 0) == b
 | .int a,.bl b=>a == (if b then 1 else 0)
 | .int a,.int b=>a == b
 | .str a,.str b=>a == b
 | _,_=>false
theorem aKF {A:AY} {s:Ad} {y x:V} {u v:Value} (ry:RelV y u) (rx:RelV x v) (fy:aBG y=true) (fx:aBG x=true):Fy A s u v (eqV y x):=by
 cases y with
 | non =>
  cases ry
  cases x with
  | non=>cases rx; exact GM _
  | bl b=>cases rx; exact JL b
  | int b=>obtain ⟨t,rfl⟩:=rx; exact Kf b t
  | str b=>obtain ⟨t,rfl⟩:=rx; exact Kg b t
  | _=>exact absurd (show false=true from fx) Av
 | bl a =>
  cases ry
  cases x with
  | non=>cases rx; exact JM a
  | bl b=>cases rx; exact GA a b
  | int b=>obtain ⟨t,rfl⟩:=rx; exact Kh a b t
  | str b=>obtain ⟨t,rfl⟩:=rx; exact Ki a b t
  | _=>exact absurd (show false=true from fx) Av
 | int a =>
  obtain ⟨t',rfl⟩:=ry
  cases x with
  | non=>cases rx; exact Kj a t'
  | bl b=>cases rx; exact Kk a t' b
  | int b=>obtain ⟨t,rfl⟩:=rx; exact KG a t' b t
  | str b=>obtain ⟨t,rfl⟩:=rx; exact Hg a t' b t
  | _=>exact absurd (show false=true from fx) Av
 | str a =>
  obtain ⟨t',rfl⟩:=ry
  cases x with
  | non=>cases rx; exact Kl a t'
  | bl b=>cases rx; exact Km a t' b
  | int b=>obtain ⟨t,rfl⟩:=rx; exact Hh a t' b t
  | str b=>obtain ⟨t,rfl⟩:=rx; exact KH a t' b t
  | _=>exact absurd (show false=true from fx) Av
 | _=>exact absurd (show false=true from fy) Av
noncomputable def eqU (x:V) (u:Value):Bool:=match u with
 | .none=>eqV .non x
 | .bool b=>eqV (.bl b) x
 | .int i _=>eqV (.int i) x
 | .str z _=>eqV (.str z) x
 | _=>false
theorem aI4 {x y:V} {u:Value} (r:RelV y u) (f:aBG y=true):eqU x u=eqV y x:=by
 cases y with
 | non=>cases r; rfl
 | bl b=>cases r; rfl
 | int i=>obtain ⟨t,rfl⟩:=r; rfl
 | str z=>obtain ⟨t,rfl⟩:=r; rfl
 | _=>exact absurd (show false=true from f) Av
theorem aAK {x:V}:∀ {xs:List V} {us:List Value},Vals xs us->xs.all aBG=true->us.any (eqU x)=xs.any fun y=>eqV y x
 | _,_,.nil,_=>rfl
 | y :: xs,u :: us,.cons r t,f=>by
  rw [Iv,AD] at f
  rw [Ew,Ew,aI4 r f.1,aAK t f.2]
theorem jL {A:AY} {s:Ad} {x:V} {v:Value} (rx:RelV x v) (fx:aBG x=true):∀ {xs:List V} {us:List Value},Vals xs us->xs.all aBG=true->∀ u∈us,Fy A s u v (eqU x u)
 | _,_,.nil,_=>fun u hu=>by cases hu
 | y :: xs,u :: us,.cons r t,f=>fun u' hu=>by
  rw [Iv,AD] at f
  rcases Aj.mp hu with rfl | hu
  ·rw [aI4 r f.1]; exact aKF r rx f.1 fx
  ·exact jL rx fx t f.2 u' hu
noncomputable def inV (x:V) (xs:List V):Bool:=xs.any fun y=>eqV y x
noncomputable def rIn (K:Af) (neg:Bool):R2:=fun x y H Q=>∃ p xs,y=.ref p/\(SqL K H p xs\/SqT K H p xs)/\aBG x=true/\xs.all aBG=true/\Q (.bl (if neg then !inV x xs else inV x xs)) H
theorem aC1:OpR X (DQ .In) (rIn X.K false):=by
 intro pins s σ H x y v u Q I rx ry h
 obtain ⟨p,xs,rfl,hq,fx,fs,q⟩:=h
 cases ry
 rcases hq with hq | hq
 ·obtain ⟨its,r,pl,hz⟩:=I.list hq
  refine Mi (eqU x) pl.isList (fun w hw=>jL rx fx r fs w (by simpa using hw)) ⟨.bl _,H,I,rfl,?_⟩
  rw [show its.toArray.any (eqU x)=its.any (eqU x) by simp,aAK r fs]
  exact q
 ·obtain ⟨its,r,pl,hz⟩:=I.tuple hq
  refine SeqAt.in_tupleAt (eqU x) pl (fun w hw=>jL rx fx r fs w (by simpa using hw)) ⟨.bl _,H,I,rfl,?_⟩
  rw [show its.toArray.any (eqU x)=its.any (eqU x) by simp,aAK r fs]
  exact q
theorem aC2:OpR X (DQ .NotIn) (rIn X.K true):=by
 intro pins s σ H x y v u Q I rx ry h
 obtain ⟨p,xs,rfl,hq,fx,fs,q⟩:=h
 cases ry
 rcases hq with hq | hq
 ·obtain ⟨its,r,pl,hz⟩:=I.list hq
  refine SeqAt.notIn_listAt (eqU x) pl.isList (fun w hw=>jL rx fx r fs w (by simpa using hw)) ⟨.bl _,H,I,rfl,?_⟩
  rw [show its.toArray.any (eqU x)=its.any (eqU x) by simp,aAK r fs]
  exact q
 ·obtain ⟨its,r,pl,hz⟩:=I.tuple hq
  refine SeqAt.notIn_tupleAt (eqU x) pl (fun w hw=>jL rx fx r fs w (by simpa using hw)) ⟨.bl _,H,I,rfl,?_⟩
  rw [show its.toArray.any (eqU x)=its.any (eqU x) by simp,aAK r fs]
  exact q
theorem zu:qW X (.builtin "len") (fun xs H Q=>∃ p ys,xs=[.ref p]/\(SqL X.K H p ys\/SqT X.K H p ys)/\Q (.int ys.length) H):=by
 intro pins s σ H xs us Q I r h
 obtain ⟨p,ys,rfl,hq,q⟩:=h
 obtain ⟨u,rfl,rx⟩:=jj r
 cases rx
 have hn:=aDa
 rcases hq with hq | hq
 ·obtain ⟨its,r',pl,hz⟩:=I.list hq
  have hlen:=r'.length
  exact Calls.call_len_list pl.isList (by simp only [Ao] <;> lia) ⟨.int ys.length,H,I.tok _,⟨s.toks + 1,by rw [Ao,hlen]⟩,q⟩
 ·obtain ⟨its,r',pl,hz⟩:=I.tuple hq
  have hlen:=r'.length
  exact len_tuple pl (by simp only [Ao] <;> lia) ⟨.int ys.length,H,I.tok _,⟨s.toks + 1,by rw [Ao,hlen]⟩,q⟩
theorem aA3:qW X (.type "list") (fun xs H Q=>∃ p ys,xs=[.ref p]/\(SqL X.K H p ys\/SqT X.K H p ys)/\∀ l,H l=none->Q (.ref l) (upd H l (.lst ys))):=by
 intro pins s σ H xs us Q I r h
 obtain ⟨p,ys,rfl,hq,q⟩:=h
 obtain ⟨u,rfl,rx⟩:=jj r
 cases rx
 have fin:∀ (its:List Value),Vals ys its->ys.length<=sizeLine->∀ (h':Heap) (c':Nat),(∀ b o',s.heap.get? b=some o'->h'.get? b=some o') ->
   h'.get? s.heap.objs.size=some { cls:=.type "list",dict:=none,data:=.seq its.toArray c',slots:=#[] }->EP X pins σ Q (.ref s.heap.objs.size) { s with heap:=h' }:=fun its r' hz h' c' kp e =>
  ⟨.ref s.heap.objs.size,_,I.laid (t':=s.toks) kp (Ak _) (show ObjOk X.prog X.w _ h' _ (.lst ys) from ⟨hz,its,c',r',e⟩),rfl,q _ (I.hok.fresh (Ak _))⟩
 rcases hq with hq | hq
 ·obtain ⟨its,r',pl,hz⟩:=I.list hq
  have hlen:=r'.length
  obtain ⟨o,ho,hc,n,hd⟩:=pl.isList
  exact call_list_seq p (.inl rfl) ho hc hd (fun h' c' kp e=>fin its r' hz h' c' kp e) (by simp only [Ao] <;> lia)
 ·obtain ⟨its,r',pl,hz⟩:=I.tuple hq
  have hlen:=r'.length
  obtain ⟨o,ho,hc,n,hd⟩:=pl
  exact call_list_seq p (.inr rfl) ho hc hd (fun h' c' kp e=>fin its r' hz h' c' kp e) (by simp only [Ao] <;> lia)
theorem yD:qW X (.type "tuple") (fun xs H Q=>∃ p ys,xs=[.ref p]/\((SqL X.K H p ys/\∀ l,H l=none->Q (.ref l) (upd H l (.tup ys)))\/(SqT X.K H p ys/\Q (.ref p) H))):=by
 intro pins s σ H xs us Q I r h
 obtain ⟨p,ys,rfl,h⟩:=h
 obtain ⟨u,rfl,rx⟩:=jj r
 cases rx
 rcases h with ⟨hq,q⟩ | ⟨hq,q⟩
 ·obtain ⟨its,r',pl,hz⟩:=I.list hq
  have hlen:=r'.length
  refine call_tuple_list pl.isList (fun h' kp=>?_) (by simp only [Ao] <;> lia)
  have I1:Inv X pins σ H { s with heap:=h' }:=I.kept (t':=s.toks) kp
  have I2:Inv X pins σ (upd H h'.objs.size (.tup ys)) { s with heap:=h'.push { cls:=.type "tuple",data:=.seq its.toArray } } :=
   I1.laid (t':=s.toks) (fun b o e=>Ac _ e) (Ak _) (show ObjOk X.prog X.w _ _ _ (.tup ys) from ⟨hz,its,r',KB _ _⟩)
  exact ⟨.ref h'.objs.size,_,I2,rfl,q _ (I1.hok.fresh (Ak _))⟩
 ·obtain ⟨its,r',pl,hz⟩:=I.tuple hq
  exact call_tuple_same pl ⟨.ref p,H,I,rfl,q⟩
noncomputable def tyV (K:Af) (T:String) (x:V) (H:Hp):Prop:=match x with
 | .str _=>T="str"
 | .int _=>T="int"
 | .ref p=>(T="list"/\∃ xs,SqL K H p xs)\/(T="tuple"/\∃ o,K.lookup p=some o/\o.cls=.type "tuple"/\o.dict=none) \/
   (T="dict"/\((∃ kvs,H p=some (.dK kvs))\/∃ kvs,H p=some (.dT kvs)))\/(T="set"/\∃ S n,H p=some (.set S n))
 | _=>False
theorem aI5 {pins:List (Addr×Obj)} {σ:St} {H:Hp} {s:Ad} {T:String} {x:V} {v:Value} (I:Inv X pins σ H s) (r:RelV x v) (ty:tyV X.K T x H) :
  s.TypeIs v T/\∀ a,v=.ref a->∃ ob,s.heap.get? a=some ob/\ob.dict=none:=by
 cases x with
 | str z =>
  obtain ⟨t,rfl⟩:=r
  cases (show T="str" from ty)
  exact ⟨typeIs_str s z t,fun _ e=>nomatch e⟩
 | int i =>
  obtain ⟨t,rfl⟩:=r
  cases (show T="int" from ty)
  exact ⟨typeIs_int s i t,fun _ e=>nomatch e⟩
 | ref p =>
  cases r
  rcases ty with ⟨rfl,xs,hq⟩ | ⟨rfl,o,hk,hc,hd⟩ | ⟨rfl,hk⟩ | ⟨rfl,S,n,hk⟩
  ·obtain ⟨its,_,pl,_⟩:=I.list hq
   refine ⟨pl.isList.typeIs,fun a e=>?_⟩
   cases e
   obtain ⟨o,n,e,c,hd,_⟩:=pl
   exact ⟨o,e,hd⟩
  ·refine ⟨⟨o,I.kIn p o hk,hc⟩,fun a e=>?_⟩
   cases e
   exact ⟨o,I.kIn _ o hk,hd⟩
  ·have z:∃ o,s.heap.get? p=some o/\o.ExactDict:=by
    rcases hk with ⟨kvs,hk⟩ | ⟨kvs,hk⟩
    ·obtain ⟨_,_,_,_,o,_,_,e,ex,_⟩:=I.hok p _ hk
     exact ⟨o,e,ex⟩
    ·obtain ⟨_,_,_,_,o,_,_,e,ex,_⟩:=I.hok p _ hk
     exact ⟨o,e,ex⟩
   obtain ⟨o,e,ex⟩:=z
   refine ⟨⟨o,e,ex.1⟩,fun a e2=>?_⟩
   cases e2
   exact ⟨o,e,ex.2.1⟩
  ·obtain ⟨o,_,_,_,e,ex,_⟩:=I.hok p _ hk
   refine ⟨⟨o,e,ex.1⟩,fun a e2=>?_⟩
   cases e2
   exact ⟨o,e,ex.2.1⟩
 | _=>exact Dz ty
noncomputable def tBM0 (K:Af) (T:String) (r:V->List V->Hp->VK->Prop) (to:TE):TE:=fun σ H Q=>to σ H fun x H1=>tyV K T x H1/\r x [] H1 Q
noncomputable def tBM (K:Af) (T:String) (r:V->List V->Hp->VK->Prop) (to:TE) (t:TA):TE:=fun σ H Q=>to σ H fun x H1=>tyV K T x H1/\t σ H1 fun xs H2=>r x xs H2 Q
variable {o e:Expr} {es:List Expr} {to:TE} {t:TA} {name:Str} {apos cpos:Pos} {T id:String} {r:V->List V->Hp->VK->Prop}
theorem aKG (pa:MG T) (slot:Slot T name id) (hty:typeOf (.builtin id)=pure (.type "method_descriptor")) (hm:MtR X id r) (ho:PE X o to)
  (hbase:EZ o name X.env (eval o X.env)=eval o X.env:=by rfl) (hline:(apos.endLine == cpos.line)=true:=by rfl):PE X (.Call (.Attribute o name apos) [] [] cpos) (tBM0 X.K T r to):=by
 intro pins s σ H Q I h
 refine FJ hbase hline (thn (ho pins s σ H _ I h) fun v s1 ⟨x,H1,I1,r1,ty,q1⟩=>?_)
 obtain ⟨h1,h2⟩:=aI5 I1 r1 ty
 exact ⟨T,id,pa,slot,hty,h1,h2,Dl rfl (GN (hm pins s1 σ H1 x [] v [] Q I1 r1 .nil q1))⟩
theorem aAq (pa:MG T) (slot:Slot T name id) (hty:typeOf (.builtin id)=pure (.type "method_descriptor")) (hm:MtR X id r) (ho:PE X o to) (ha:PA X (e :: es) t)
  (hbase:EZ o name X.env (eval o X.env)=eval o X.env:=by rfl)
  (hfew:((Fe cpos (AW (e :: es) X.env)).all (fun x=>!x.1) && (MO cpos (Kn [] X.env)).all (fun x=>x.1.isSome)
   && decide ((e :: es).length + ([]:List Jh).length + (if ([]:List Jh).isEmpty then 0 else 1) < 30))=true:=by rfl)
  (hline:(apos.endLine == cpos.line)=true:=by rfl) (hs:AW (e :: es) X.env=(false,eval e X.env) :: AW es X.env:=by rfl) (hplain:(Fe cpos (AW es X.env)).any (·.1)=false:=by rfl) :
  PE X (.Call (.Attribute o name apos) (e :: es) [] cpos) (tBM X.K T r to t):=by
 intro pins s σ H Q I h
 refine Ja hbase hfew hline rfl (thn (ho pins s σ H _ I h) fun v s1 ⟨x,H1,I1,r1,ty,q1⟩=>?_)
 obtain ⟨h1,h2⟩:=aI5 I1 r1 ty
 refine ⟨T,id,pa,slot,hty,h1,h2,?_⟩
 have hA:=ha cpos pins s1 σ H1 _ I1 q1
 rw [hs] at hA ⊢
 refine Dl (by show (false || (Fe cpos (AW es X.env)).any (·.1))=false; rw [hplain] <;> rfl) (GB ?_)
 exact thn hA fun us s2 ⟨vs,H2,I2,r2,q2⟩=>hm pins s2 σ H2 x vs v us Q I2 r1 r2 q2
end
noncomputable def MtM (X:Cx) (id:String) (r:V->List V->Hp->VK->Prop):Prop :=
 ∀ (pins:List (Addr×Obj)) (s:Ad) (σ:St) (H:Hp) (x:V) (xs:List V) (v:Value) (us:List Value) (Q:VK),Inv X pins σ H s->RelV x v->Vals xs us->r x xs H Q ->
  Ar (AB X.prog X.w) X.A (call (.builtin id) (v :: us)) (EP X pins σ Q) X.xe s
theorem Vals.one:∀ {x:V} {us:List Value},Vals [x] us->∃ u,us=[u]/\RelV x u
 | _,_,.cons r .nil=>⟨_,rfl,r⟩
theorem Vals.zero:∀ {us:List Value},Vals [] us->us=[]
 | _,.nil=>rfl
theorem Vals.dropLast {xs:List V} {us:List Value} (h:Vals xs us):Vals xs.dropLast us.dropLast:=by
 induction h with
 | nil=>exact .nil
 | cons r t ih =>
  cases t with
  | nil=>exact .nil
  | cons q t'=>exact .cons r ih
theorem Vals.reverse {xs:List V} {us:List Value} (h:Vals xs us):Vals xs.reverse us.reverse:=by
 induction h with
 | nil=>exact .nil
 | cons r t ih=>rw [HY,HY]; exact Vals.append ih (.cons r .nil)
theorem aEO {α:Type} (l:List α):l.eraseIdx (l.length - 1)=l.dropLast:=by
 induction l with
 | nil=>rfl
 | cons a r ih =>
  cases r with
  | nil=>rfl
  | cons b r =>
   have e:(a :: b :: r).length - 1=((b :: r).length - 1) + 1:=by
    have h1:(a :: b :: r).length=r.length + 2:=rfl
    have h2:(b :: r).length=r.length + 1:=rfl
    lia
   rw [e,List.eraseIdx_cons_succ,ih]
   all_goals rfl
section
variable {X:Cx} {pins:List (Addr×Obj)} {σ:St} {H:Hp} {s:Ad} {l b:Addr} {xs ys zs:List V}
theorem Inv.lset {its its':List Value} {n:Nat} {f:Array Value->Array Value} {t':Nat} (I:Inv X pins σ H s) (hH:H l=some (.lst xs))
  (e:s.heap.get? l=some { cls:=.type "list",data:=.seq its.toArray n }) (hf:f its.toArray=its'.toArray) (hv:Vals ys its') (hz:ys.length<=sizeLine) :
  Inv X pins σ (upd H l (.lst ys)) { s with heap:=s.heap.update l (BB f),toks:=t' }:=by
 have q:=PySem.IsL.update e f
 rw [hf] at q
 refine I.write (x:=l) (e:=l) (by rw [hH]; exact trivial) (.inl rfl) (fun b' u hb hu=>(AF s.heap (BB f) (BT hb)).trans hu) ⟨_,q⟩ ?_
 exact ⟨hz,its',_,hv,q⟩
theorem Inv.lnew {its:List Value} {t':Nat} (I:Inv X pins σ H s) (hv:Vals ys its) (hz:ys.length<=sizeLine) :
  Inv X pins σ (upd H s.heap.objs.size (.lst ys)) { s with heap:=s.heap.push { cls:=.type "list",data:=.seq its.toArray },toks:=t' } :=
 I.laid (fun _ _ q=>Ac _ q) (Ak _) ⟨hz,its,0,hv,Ag _ rfl⟩
theorem Inv.fresh (I:Inv X pins σ H s):H s.heap.objs.size=none:=I.hok.fresh (Ak _)
theorem Inv.lstM (I:Inv X pins σ H s) (hH:H l=some (.lst xs)):xs.length<=sizeLine/\∃ (its:List Value) (n:Nat),Vals xs its/\xs.length=its.length/\s.heap.get? l=some { cls:=.type "list",data:=.seq its.toArray n }:=by
 obtain ⟨z,its,n,r,e⟩:=I.hok l _ hH
 exact ⟨z,its,n,r,r.length,e⟩
theorem aDd {n:Nat} (h:n<=sizeLine):En n=false:=by
 unfold En
 exact decide_eq_false (by lia)
end
section
variable {X:Cx}
noncomputable def aIl:V->List V->Hp->VK->Prop:=fun x vs H Q=>∃ l xs y,x=.ref l/\vs=[y]/\H l=some (.lst xs)/\xs.length < sizeLine/\Q .non (upd H l (.lst (xs++[y])))
theorem yE:MtM X "list.append" aIl:=by
 intro pins s σ H x vs v us Q I rx rv h
 obtain ⟨l,xs,y,rfl,rfl,hH,hz,q⟩:=h
 cases rx
 obtain ⟨u,rfl,ru⟩:=rv.one
 obtain ⟨z,its,n,r,hl,e⟩:=I.lstM hH
 refine MH F.slot_list_append ⟨_,e,rfl⟩ F.entry_list_append (F.args_list_append_2 _ _) (PySem.list_append l its.toArray n u (by rw [Ao]; lia)) ⟨e,?_⟩
 refine ⟨.non,_,I.lset (its':=its++[u]) hH e (by simp) (r.append (.cons ru .nil)) ?_,rfl,q⟩
 rw [Ai,Jk]
 lia
noncomputable def aIm:V->List V->Hp->VK->Prop:=fun x vs H Q=>∃ l b xs zs,x=.ref l/\vs=[.ref b]/\H l=some (.lst xs)/\H b=some (.lst zs)/\xs.length + zs.length<=sizeLine/\Q .non (upd H l (.lst (xs++zs)))
theorem aFA:MtM X "list.extend" aIm:=by
 intro pins s σ H x vs v us Q I rx rv h
 obtain ⟨l,b,xs,zs,rfl,rfl,hH,hB,hz,q⟩:=h
 cases rx
 obtain ⟨u,rfl,ru⟩:=rv.one
 cases ru
 obtain ⟨z,its,n,r,hl,e⟩:=I.lstM hH
 obtain ⟨z2,its2,n2,r2,hl2,e2⟩:=I.lstM hB
 have hsz:its.toArray.size + its2.toArray.size<=sizeLine:=by rw [Ao,Ao]; lia
 have hlong:¬ (!its.toArray.isEmpty && En (its.toArray.size + its2.toArray.size))=true:=by
  rw [aDd hsz,Hw]
  exact Av
 refine MH KI ⟨_,e,rfl⟩ Ko (JN _ _)
  (AutoSeq1.list_extend_list_list_0 l its.toArray n b its2.toArray n2 hlong (by rw [Ao]; lia) (by lia)) ⟨e,e2,?_⟩
 refine ⟨.non,_,I.lset (its':=its++its2) hH e (by simp) (r.append r2) ?_,rfl,q⟩
 rw [Ai]
 lia
noncomputable def rPop:V->List V->Hp->VK->Prop:=fun x vs H Q=>∃ l xs y,x=.ref l/\vs=[]/\H l=some (.lst xs)/\xs[xs.length - 1]?=some y/\Q y (upd H l (.lst xs.dropLast))
theorem aKH:MtM X "list.pop" rPop:=by
 intro pins s σ H x vs v us Q I rx rv h
 obtain ⟨l,xs,y,rfl,rfl,hH,hy,q⟩:=h
 cases rx
 have hus:=rv.zero
 subst hus
 obtain ⟨z,its,n,r,hl,e⟩:=I.lstM hH
 obtain ⟨u,hu,ru⟩:=r.get hy
 have hy':its.toArray[its.toArray.size - 1]?=some u:=by
  show its.toArray[its.length - 1]?=some u
  rw [<- BA,<- hl]
  exact hu
 refine MH F.slot_list_pop ⟨_,e,rfl⟩ F.entry_list_pop (F.args_list_pop_1 _) (MeetsSeq.list_pop_last l its.toArray n u hy' (by rw [Ao]; lia)) ⟨e,?_⟩
 refine ⟨y,_,I.lset (its':=its.dropLast) hH e ?_ r.dropLast ?_,ru,q⟩
 ·show its.toArray.eraseIdxIfInBounds (its.toArray.size - 1)=its.dropLast.toArray
  rw [Ao,List.eraseIdxIfInBounds_toArray,aEO]
 ·rw [List.length_dropLast]
  lia
noncomputable def rCat:R2:=fun x y H Q=>∃ l b xs zs,x=.ref l/\y=.ref b/\H l=some (.lst xs)/\H b=some (.lst zs)/\xs.length + zs.length<=sizeLine/\∀ p,H p=none->Q (.ref p) (upd H p (.lst (xs++zs)))
theorem aFB:OpR X (EY .Add) rCat:=by
 intro pins s σ H x y v u Q I rx ry h
 obtain ⟨l,b,xs,zs,rfl,rfl,hH,hB,hz,q⟩:=h
 cases rx
 cases ry
 obtain ⟨z,its,n,r,hl,e⟩:=I.lstM hH
 obtain ⟨z2,its2,n2,r2,hl2,e2⟩:=I.lstM hB
 refine PySem.P.add_list e e2 ?_ (by rw [Ao,Ao]; lia)
 have ea:its.toArray++its2.toArray=(its++its2).toArray:=by simp
 rw [ea]
 exact ⟨.ref _,_,I.lnew (t':=s.toks) (r.append r2) (by rw [Ai]; lia),rfl,q _ I.fresh⟩
end
section
variable {prog:At} {w:AV} {A:AY} {E:Value->Ad->Prop} {s:Ad}
set_option maxRecDepth 100000 in
end
section
variable {X:Cx}
end
end L2
namespace Att
open PySem PySem.W PySem.Calls PyProof.Rows
theorem aAL {P:Params} {h:Heap}:∀ (ns:List Int) (vs:List Value),WellAll P h vs (ns.map WData.int)->EG vs ns:=by
 intro ns
 induction ns with
 | nil =>
  intro vs w
  rw [BX] at w
  cases w
  exact .nil
 | cons n ns ih =>
  intro vs w
  rw [AA] at w
  cases w with
  | cons a b =>
   cases a
   exact .cons _ _ (ih _ b)
theorem aFC {l:OpenLaw} {n:Nat} (hn:l.most=some n) {P:Params} {h:Heap} {args:List WData} {vals:List Value}
    (hpre:l.row.toRowW.claim.pre args=true) (hwl:WellAll P h vals args) :
    ∃ a vs ns,vals=[Value.ref a]/\args=[WData.list (ns.map WData.int)]/\h.get? a=some { cls:=.type "list",data:=.seq vs.toArray }/\EG vs ns/\ns.length<=n:=by
  have hsh:WShape.hasAll [] args [.list .int]=true:=(pre_splitW hpre).1
  have hc:l.pre.holds [] { args:=args }=true:=(pre_splitW hpre).2
  obtain ⟨d,r,rfl,h1,h2⟩:=hasAllW_cons hsh
  obtain rfl:=hasAllW_nil h2
  obtain ⟨xs,rfl,h3⟩:=hasW_list h1
  obtain ⟨ns,rfl⟩:=items_int h3
  have hlen:ns.length<=n:=by
    unfold OpenLaw.pre at hc
    have h4:(WTm.not (.lt (.lit (.int (n:Int))) (.len (.arg 0)))).holds [] { args:=[.list (ns.map .int)] }=true:=by
      have h4:=(holds_andW hc).1
      rw [hn] at h4
      exact h4
    have h5:=condW_of h4 (w_not (w_lt w_lit (w_len_list (w_arg rfl))))
    rw [Ah] at h5
    refine IP fun q=>?_
    have q':(n:Int) < ((ns.length:Nat):Int):=by lia
    first
      | (rw [decide_eq_true q'] at h5; exact absurd h5 (by decide))
      | (simp at h5; lia)
  cases hwl with
  | cons w1 w2 =>
    cases w2
    cases w1 with
    | list ho hall=>exact ⟨_,_,ns,rfl,rfl,ho,aAL ns _ hall,hlen⟩
theorem aFD (l:OpenLaw) (args:List WData):l.row.toRowW.claim.post args (.bool true) args=true :=
 postW_of (r:=l.row.toRowW) (X:=(true == true))
  (show WShape.has [] (.bool true) .bool=true by first | rfl | decide | simp [WShape.has,WShape.arms,WShape.armsAll])
  (show (WTm.eq .res (.lit (.bool true))).value [] { args:=args,res:=some (.bool true),after:=args }=some (.bool (true == true)) from w_eq_bool (w_res rfl) w_lit) rfl
theorem attach_call {l:OpenLaw} {n:Nat} {q:At} {loose:List Str} {XP:(Str->Option Value)->Heap->Prop} {YP:AV->Heap->Prop} {d:DefRec}
  (hn:l.most=some n) (hdf:d.params.defaults=[])
  (call:∀ (w:AV) (s₀ s₁:Ad) (mg mb:Str->Option Value) (fa:Addr) (o:Obj) (pm cd doc:Value) (a:Addr) (vs:List Value) (ns:List Int),
   Ground q loose [] XP w s₀ mg mb s₁.heap->YP w s₁.heap ->
   s₁.heap.get? fa=some o->o.data=.func (docDef d.name d.params d.body d.scope pm cd doc)->s₁.heap.CodeRec cd d.name->mg d.name=some (.ref fa) ->
   s₁.heap.get? a=some { cls:=.type "list",data:=.seq vs.toArray }->EG vs ns->ns.length<=n->s₁.gens=#[] ->
   CA (AB l.prog w) Lj (.call (.ref fa) ⟨[.ref a],[]⟩) (fun r s'=>r=.ok (.ret (.bool true))/\OldK s₁.heap s'.heap/\s'.os=s₁.os/\Ip s'.gens) s₁) :
  WalkO q loose XP YP l.row.toRowW d [] (fun f vs=>MI f vs):=by
 intro w s₀ s₁ mg mb G Y fa o pm cd doc dV kV ho hd hcd hD hmg hg args vals as hpre hlay hrd hwl hlo
 obtain rfl:dV=.none:=Dflts.none hD hdf
 obtain rfl:kV=.none:=Dflts.noKw hD
 obtain ⟨a,vs,ns,rfl,rfl,hobj,hints,hlen⟩:=aFC hn hpre hwl
 refine enter_call (Dh (call w s₀ s₁ mg mb fa o pm cd doc a vs ns G Y ho (fd_plain hd) hcd hmg hobj hints hlen hg) fun r s' hq=>?_)
 obtain ⟨rfl,h2,h3,h4⟩:=hq
 exact ⟨.inl ⟨.bool true,.bool true,[],rfl,fun _=>rfl,.bool true,aFD l _,fun _=>⟨BJ,fun _ hm=>(nomatch hm)⟩⟩,h2,h3,h4⟩
section
variable {prog:At} {w:AV} {A:AY} {E:Value->Ad->Prop} {s:Ad} {K:Frag}
end
end Att
namespace L2
open PySem PySem.Spec PyProof.Rows
theorem qD:∀ {vs:List Value} {ns:List Int},EG vs ns->Vals (ns.map V.int) vs
 | _,_,.nil=>.nil
 | _,_,.cons n t h=>.cons ⟨t,rfl⟩ (qD h)
noncomputable def Only (H:Hp):Prop:=∀ b,H b=none\/∃ o xs,H b=some (.frz o (.lst xs))
theorem aHA {P:At} {w:AV} {K:Af} {mg mb:Str->Option Value} {CX:CXT} {k:Nat} {fa a:Addr} {fd:Bu} {x:Str} {sp:Sp} {s₁:Ad} {vs:List Value} {ns:List Int}
  (KX:K.In s₁.heap) (hns:s₁.heap.Ns Az mg) (hb:s₁.heap.Ns MD mb) (hbb:∀ x:Str,x≠"__name__"->mb x=BW x) (hlim:s₁.heap.NoLimit) (hg:s₁.gens=#[])
  (ha:s₁.heap.get? a=some { cls:=.type "list",data:=.seq vs.toArray }) (hi:EG vs ns) (hl:ns.length<=sizeLine) (hr:Room k Lj)
  (F:∀ base:Heap,K.In base->base.Ns Az mg->FnOk P w K mg base CX k fa fd [x] sp) (hbind:∀ (s:Ad) (u:Value),Mg s fd ⟨[u],[]⟩ [(x,u)])
  (hsp:∀ H:Hp,Only H->SqL K H a (ns.map V.int)->sp [.ref a] H (fun v _=>v=.bl true) fun _ _ _=>False)
  (hCX:∀ H e s',CX [] H s₁ (fun _ _ _=>False) e s'->False) :
  CA (AB P w) Lj (.call (.ref fa) ⟨[.ref a],[]⟩) (fun r s'=>r=.ok (.ret (.bool true))/\OldK s₁.heap s'.heap/\s'.os=s₁.os/\Ip s'.gens) s₁:=by
 have rv:=qD hi
 have lenV:=hi.length
 have core:∀ H:Hp,Only H->SqL K H a (ns.map V.int)->HOk P w H s₁.heap->(∀ b,H b≠none->b=a)->(H a≠none->K.lookup a=none) ->
   CA (AB P w) Lj (.call (.ref fa) ⟨[.ref a],[]⟩) (fun r s'=>r=.ok (.ret (.bool true))/\OldK s₁.heap s'.heap/\s'.os=s₁.os/\Ip s'.gens) s₁:=by
  intro H hO hS hok hA hK
  have base_of:∀ {b:Addr} {o:Obj},s₁.heap.get? b=some o->H b=none->(hidT s₁.heap H).get? b=some o:=fun e n=>aH7 e n
  have noA:∀ {b:Addr} {o:Obj} {es:Array Cs} {ep:Nat},s₁.heap.get? b=some o->o.data=.dict es ep->H b=none:=fun {b o es ep} e d=>by
   cases q:H b with
   | none=>rfl
   | some u =>
    have e':b=a:=hA b (by rw [q]; simp)
    subst e'
    rw [ha] at e; cases e
    have d':Data.seq vs.toArray _=Data.dict es ep:=d
    cases d'
  have nsK:∀ {b:Addr} {m:Str->Option Value},s₁.heap.Ns b m->(hidT s₁.heap H).Ns b m:=fun {b m} ⟨o,es,ep,e,d,r⟩=>⟨o,es,ep,base_of e (noA e d),d,r⟩
  have hKb:K.In (hidT s₁.heap H):=fun b o e=>base_of (KX b o e) (by
   cases q:H b with
   | none=>rfl
   | some u =>
    have e':b=a:=hA b (by rw [q]; simp)
    subst e'
    rw [hK (by rw [q]; simp)] at e; cases e)
  have hM:Mod K mg (hidT s₁.heap H):=⟨hKb,nsK hns,⟨mb,nsK hb,hbb⟩,let ⟨mc,h1,h2⟩:=hlim; ⟨mc,nsK h1,h2⟩⟩
  have e0:Env0 P w K mg (hidT s₁.heap H) Lj [] s₁ H:=⟨rfl,hM,fun b o e=>aId e,Fz (aEq _ _),trivial,fun b hb=>absurd (show b∈([]:List Addr) from hb) (by simp),hok,.of_eq hg⟩
  refine Dh ((F _ hKb (nsK hns)).run Lj [] s₁ H ⟨[.ref a],[]⟩ [.ref a] [.ref a] _ _ hr e0 (hbind s₁ (.ref a)) (.cons rfl .nil) (hsp H hO hS)) fun r s' h=>?_
  cases r with
  | error e=>exact (hCX H e s' h).elim
  | ok fl =>
   cases fl with
   | next=>exact Dz h
   | brk=>exact Dz h
   | cont=>exact Dz h
   | ret u =>
    obtain ⟨v,H',os,bare,un,hok',r',q⟩:=h
    have q':v=.bl true:=q
    subst q'
    obtain rfl:u=JF true:=r'
    refine ⟨rfl,OldK.of_keep fun b o e=>?_,os,bare⟩
    cases q:H b with
    | none=>exact un.keep b o e q (by intro z; exact absurd (show b∈([]:List Addr) from z) (by simp)) (by simp)
    | some u =>
     rcases hO b with z | ⟨ob,xs,z⟩
     ·rw [q] at z; cases z
     ·have z2:=un.frzs b ob _ z
      obtain ⟨e1,_⟩:=hok b _ z
      obtain ⟨e2,_⟩:=hok' b _ z2
      rw [e] at e1; cases e1
      exact e2
 cases hk:K.lookup a with
 | some o =>
  have e:=KX a o hk
  rw [ha] at e
  cases e
  refine core (fun _=>none) (fun _=>.inl rfl) (.inr ⟨_,vs.toArray,_,hk,rfl,rfl,rfl,by rw [Ao,lenV]; exact hl,by simpa using rv⟩) (fun b u z=>by have z':(none:Option HO)=some u:=z; cases z') (fun b z=>absurd rfl z) fun z=>absurd rfl z
 | none =>
  refine core (fun b=>if b=a then some (.frz { cls:=.type "list",data:=.seq vs.toArray } (.lst (ns.map V.int))) else none) (fun b=>?_) (.inl (.inr ⟨{ cls:=.type "list",data:=.seq vs.toArray },if_pos rfl⟩)) (fun b u z=>?_) (fun b z=>?_) fun _=>hk
  ·by_cases hb:b=a
   ·exact .inr ⟨_,_,if_pos hb⟩
   ·exact .inl (if_neg hb)
  ·by_cases hb:b=a
   ·have z':=(if_pos hb).symm.trans z
    cases z'
    subst hb
    exact ⟨ha,by rw [Ah]; exact hl,vs,_,rv,ha⟩
   ·have z':=(if_neg hb).symm.trans z
    cases z'
  ·by_cases hb:b=a
   ·exact hb
   ·exact absurd (if_neg hb) z
theorem walk_of {l:Jl} {n k:Nat} {q:At} {loose:List Str} {XP:(Str->Option Value)->Heap->Prop} {YP:AV->Heap->Prop} {d:DefRec} {K:Params->Af} {CX:AV->CXT} {sp:AV->Sp} {x:Str}
  (hn:l.most=some n) (hn2:n<=sizeLine) (hdf:d.params.defaults=[]) (hr:Room k Lj)
  (hY:∀ (w:AV) (h:Heap),YP w h->(K w.params).In h)
  (F:∀ (w:AV) (mg:Str->Option Value) (fa:Addr) (h:Heap),(K w.params).In h->h.Ns Az mg->mg d.name=some (.ref fa) ->
   ∃ fd:Bu,(∀ (s:Ad) (u:Value),Mg s fd ⟨[u],[]⟩ [(x,u)]) /\
    ∀ base:Heap,(K w.params).In base->base.Ns Az mg->FnOk l.prog w (K w.params) mg base (CX w) k fa fd [x] (sp w))
  (hsp:∀ (w:AV) (H:Hp) (a:Addr) (ns:List Int),ns.length<=n->Only H->SqL (K w.params) H a (ns.map V.int)->sp w [.ref a] H (fun v _=>v=.bl true) fun _ _ _=>False)
  (hCX:∀ (w:AV) (H:Hp) (s:Ad) (e:Value) (s':Ad),CX w [] H s (fun _ _ _=>False) e s'->False) :
  MP q loose XP YP l.row.toRowW d [] (fun f vs=>MI f vs):=by
 refine Att.attach_call hn hdf fun w s₀ s₁ mg mb fa o pm cd doc a vs ns G Y ho hd hcd hmg hobj hints hlen hg=>?_
 have KX:=hY w _ Y
 obtain ⟨fd,hb,hF⟩:=F w mg fa _ KX G.T.g hmg
 exact aHA KX G.T.g G.T.b G.T.builtins G.T.nolimit hg hobj hints (Ay hlen hn2) hr hF hb (fun H hO hS=>hsp w H a ns hlen hO hS) fun H e s'=>hCX w H s₁ e s'
noncomputable def aIn (s:Stmt) (j:Nat):Stmt:=match s with
 | .ClassDef _ _ _ body _ _ _ _ _ _ _=>body.getD j (.Pass ⟨0,0,0,0⟩)
 | _=>.Pass ⟨0,0,0,0⟩
noncomputable def zR (s:Stmt):Arguments:=match s with
 | .FunctionDef _ a _ _ _ _ _ _ _ _=>a
 | _=>{ posonlyargs:=[],args:=[],vararg:=none,kwonlyargs:=[],kw_defaults:=[],kwarg:=none,defaults:=[] }
noncomputable def zQ (s:Stmt):List Stmt:=match s with
 | .FunctionDef _ _ b _ _ _ _ _ _ _=>b
 | _=>[]
noncomputable def zG (s:Stmt):Scope:=match s with
 | .FunctionDef _ _ _ _ _ _ sc _ _ _=>sc
 | _=>{ kind:=.function,names:=[],isGenerator:=false,isCoroutine:=false }
noncomputable abbrev CX0:CXT:=fun _ _ _ _ _ _=>False
noncomputable abbrev E0:XK:=fun _ _ _=>False
theorem aLb {X:Cx}:aF7 CX0 X E0:=fun _ _ _ _ _ _ _ h=>h.elim
structure Fun (K:Af) (x qual:Str) (st:Stmt) (f:Addr) (fd:Bu):Prop where
 ex:∃ (oc:Value) (od:Option Addr) (kV doc pm:Value) (an:Option Addr) (cdv ct:Value) (osl:Array (Option Value)),
  fd=AZ x qual (zR st) (zQ st) (zG st) .none kV doc pm an cdv ct/\K.lookup f=some ⟨oc,od,.func fd,osl⟩/\AR K cdv qual=true
 kp:AI K (.ref f)=true
section
variable {P:At} {w:AV} {K:Af} {mg:Str->Option Value} {base:Heap}
theorem Fun.ok {x qual:Str} {st:Stmt} {f:Addr} {fd:Bu} {N ps:List Str} {k:Nat} {sp:Sp} (F:Fun K x qual st f fd) (S:FnScope N ps (zG st)) (len:∀ vs H Q E,sp vs H Q E->vs.length=ps.length)
  (hbody:∀ (cdv:Value) (A:AY) (outer:List Env) (s:Ad) (H:Hp) (vs:List V) (Q:VK) (E:XK),Room k (A.deeper (JW qual (zG st) s.heap.objs.size f cdv))->sp vs H Q E ->
   ∃ t,PSs (cxOf CX0 P w K mg base N qual (zG st) f cdv A outer s H E).nox (zQ st) t/\t { nx:=fun _ H'=>Q .non H',rt:=Q } (aAp N vs) H):FnOk P w K mg base CX0 (k + 1) f fd ps sp:=by
 obtain ⟨oc,od,kV,doc,pm,an,cdv,ct,osl,rfl,lk,hcd⟩:=F.ex
 refine aKE lk hcd S len fun A outer s H vs Q E hr hsp=>?_
 obtain ⟨t,h,q⟩:=hbody cdv A outer s H vs Q E hr hsp
 exact ⟨t,h.nox,q⟩
theorem Fun.binds {x qual:Str} {st:Stmt} {f:Addr} {fd:Bu} {ps:List Str} (F:Fun K x qual st f fd)
  (h:∀ (kV doc pm:Value) (an:Option Addr) (cdv ct:Value) (us:List Value),us.length=ps.length->bindArgs (AZ x qual (zR st) (zQ st) (zG st) .none kV doc pm an cdv ct) ⟨us,[]⟩=pure (ps.zip us)):Binds K fd ps []:=by
 obtain ⟨oc,od,kV,doc,pm,an,cdv,ct,osl,rfl,lk,hcd⟩:=F.ex
 exact .all (h kV doc pm an cdv ct)
theorem zg {x qual:Str} {st:Stmt} {f:Addr} {oc:Value} {od an:Option Addr} {osl:Array (Option Value)} {kV doc pm cdv ct:Value} (l:K.lookup f=some ⟨oc,od,.func (AZ x qual (zR st) (zQ st) (zG st) .none kV doc pm an cdv ct),osl⟩)
  (c:AR K cdv qual=true) (k:AI K (.ref f)=true):Fun K x qual st f (AZ x qual (zR st) (zQ st) (zG st) .none kV doc pm an cdv ct):=⟨⟨oc,od,kV,doc,pm,an,cdv,ct,osl,rfl,l,c⟩,k⟩
end
theorem aAM {A:AY} {k:Nat} (hr:Room k A):A.units + 1 < cLine:=DZ (Nat.add_le_add_left (by decide:1<=64) _) hr.units
theorem aFE {n:Nat} (h:n<=1000):n < sizeLine:=DZ h (by decide)
section
variable {X:Cx}
theorem pv (i:Nat) {x:Str} {pos:Pos} (hN:X.N[i]?=some x:=by rfl) (hv:Vis X.env.scope x:=by first | exact Bc rfl | exact Ba (Bc rfl) | exact Ba (Ba rfl)) (hd:(x == ("__debug__":Str))=false:=by decide)
  (hcd:(x == ("__classdict__":Str))=false:=by decide):PE X (.Name x pos) (tVar i):=aJy hN hv hd hcd
end
theorem iteF {A B:Prop} (h:B):if false=true then A else B:=by
 rw [if_neg Av]
 exact h
theorem iteT {A B:Prop} (h:A):if true=true then A else B:=by
 rw [if_pos rfl]
 exact h
theorem ite2 {c A B:Prop} [Decidable c] (h1:c->A) (h2:¬ c->B):if c then A else B:=by
 by_cases h:c
 ·rw [if_pos h]
  exact h1 h
 ·rw [if_neg h]
  exact h2 h
theorem aLc {c A B:Prop} [Decidable c] (hc:c) (h:B):if (!decide c)=true then A else B:=by
 rw [decide_eq_true hc]
 exact iteF h
noncomputable def Same (H H':Hp):Prop:=∀ b o,H b=some o->H' b=some o
theorem Same.refl (H:Hp):Same H H:=fun _ _ h=>h
theorem Same.trans {H H1 H2:Hp} (a:Same H H1) (b:Same H1 H2):Same H H2:=fun c o h=>b c o (a c o h)
theorem Same.free {H H':Hp} (e:Same H H') {l:Addr} (h:H' l=Option.none):H l=Option.none:=by
 cases q:H l with
 | none=>rfl
 | some o =>
  rw [e l o q] at h
  cases h
section
variable {X:Cx}
theorem aIo:OpR X (EY .Mult) (rI Mb fun i j=>.int (i * j)):=opI fun _ _ _ _ _ _ _ hc q=>mul_int q hc
theorem aAu {n k:Nat} (hk:0 < k) (h:n < 2 ^ k):n.log2 < k:=by
 rcases Nat.eq_zero_or_pos n with h0 | hp
 ·rw [h0]; simpa using hk
 ·exact (Nat.log2_lt (Cd hp)).mpr h
theorem aHB {a b:Int} (ha:a.natAbs < 2 ^ 4000) (hb:b.natAbs < 2 ^ 4000):Mb a b:=by
 have l:∀ {z:Int},z.natAbs < 2 ^ 4000->Fu z<=4000:=by
  intro z hz
  unfold Fu
  split
  ·exact AL _
  ·have:=aAu (by decide:0 < 4000) hz
   lia
 have h1:=l ha
 have h2:=l hb
 unfold Mb
 have:Jm ((Fu a:Int) + (Fu b:Int))=false:=by
  unfold Jm bitsLine
  exact decide_eq_false (by lia)
 rw [this]; simp
noncomputable def aLd (i j:Int):Prop:=0 < j/\j.natAbs < 2 ^ 4000
theorem aDe:OpR X (EY .FloorDiv) (rI aLd fun i j=>.int (i / j)):=opI fun i j _ _ _ _ _ hc q=>by
 have h1:(0:Int) < j:=hc.1
 have h2:=aAu (by decide:0 < 4000) hc.2
 exact floordiv_int (by lia) (by rw [Ha i (by lia)]; exact q) (.inl (PyProof.noPylong_of_log2 (by lia)))
theorem aCo:qW X (.builtin "isinstance") (fun xs H Q=>∃ x T t b,xs=[x,.ty T]/\TyOf X.K H x t/\Ff X.K t (.type T)=some b/\Q (.bl b) H):=by
 intro pins s σ H xs us Q I r h
 obtain ⟨x,T,t,b,rfl,ty,e,q⟩:=h
 obtain ⟨u,u2,rfl,rx,r2⟩:=aF1 r
 obtain rfl:u2=Dy T:=r2
 exact aF6 I rx ty e fun tk=>⟨.bl b,H,I.tok tk,rfl,q⟩
theorem jM (K:Af):Ff K (.type "int") (.type "tuple")=some false:=by with_unfolding_all rfl
theorem aAN (K:Af):Ff K (.type "tuple") (.type "tuple")=some true:=by with_unfolding_all rfl
noncomputable def jm (w:AV) (K:Af) (a:Addr):Prop:=∃ es n,K.lookup a=some ⟨.type "dict",none,.dict es n,#[]⟩/\Eo w.params es.toList
noncomputable def rIxD (w:AV) (K:Af):R2:=fun x y H Q=>∃ a z v u,x=.ref a/\y=.str z/\jm w K a/\As K a z=some (some u)/\RelV v u/\Q v H
theorem aFF:IxR X (rIxD X.w X.K):=by
 intro value slice pins s σ H x y v u Q I rx ry h hs
 obtain ⟨a,z,v',u',rfl,rfl,⟨es,n,hl,hk⟩,e,r,q⟩:=h
 obtain rfl:v=Value.ref a:=rx
 obtain ⟨t,rfl⟩:=ry
 obtain ⟨m,F⟩:=I.fr
 exact PySem.W.topItem_K F I.mod.kin hl hk e ⟨v',H,I.tok _,r,q⟩ hs
structure Callee (P:At) (w:AV) (K:Af) (mg:Str->Option Value) (base:Heap) (CX:CXT) (k:Nat) (f:Addr) (sp:Sp):Prop where
 ok:∃ fd ps,FnOk P w K mg base CX k f fd ps sp/\Binds K fd ps []
 kp:AI K (.ref f)=true
end
theorem aAv:BW "len"=some (.builtin "len"):=by decide +kernel
theorem aBH:BW "isinstance"=some (.builtin "isinstance"):=by decide +kernel
theorem qO:BW "tuple"=some (.type "tuple"):=by decide +kernel
theorem aFG:BW "list"=some (.type "list"):=by decide +kernel
structure Def (P:At) (w:AV) (K:Af) (mg:Str->Option Value) (base:Heap) (CX:CXT) (k:Nat) (x:Str) (sp:Sp):Prop where
 ex:∃ f fd ps,FnOk P w K mg base CX k f fd ps sp/\Binds K fd ps []/\mg x=some (.ref f)/\AI K (.ref f)=true
section
variable {X:Cx} {CX:CXT} {k:Nat} {sp:Sp} {x:Str} {p pos:Pos} {e:Expr} {es:List Expr} {t:TA}
theorem zU (G:Def X.prog X.w X.K X.mg X.base CX0 k x sp) (hr:Room k X.A) (ha:PA X (e :: es) t) (hg:Gl X x:=by rfl) (hdb:(x == ("__debug__":Str))=false:=by decide)
  (he:AW (e :: es) X.env=(false,eval e X.env) :: AW es X.env:=by rfl) (hpl:(Fe pos (AW es X.env)).any (·.1)=false:=by rfl) :
  PE X (.Call (.Name x p) (e :: es) [] pos) (aKC sp [] E0 t):=by
 obtain ⟨f,fd,ps,a,b,c,d⟩:=G.ex
 exact aIg a hr hg c d b .nil aLb ha hdb he hpl
noncomputable def aKI (K:Af):List V->Hp->VK->Prop:=fun xs H Q=>match xs with
 | [x,.ty T]=>∃ t b,TyOf K H x t/\Ff K t (.type T)=some b/\Q (.bl b) H
 | _=>False
theorem aFH:qW X (.builtin "isinstance") (aKI X.K):=by
 intro pins s σ H xs us Q I r h
 unfold aKI at h
 split at h
 ·obtain ⟨t,b,ty,e,q⟩:=h
  exact aCo pins s σ H _ us Q I r ⟨_,_,t,b,rfl,ty,e,q⟩
 ·exact h.elim
theorem aFI {T:Str} {TT:String} {a:Expr} {ta:TE} {p2:Pos} (hm:X.mg "isinstance"=none) (hT:X.mg T=none) (hv:BW T=some (.type TT)) (ha:PE X a ta) (hg:Gl X "isinstance":=by rfl) (hg2:Gl X T:=by rfl) (hn:T≠"__name__":=by decide) (hd:(T == ("__debug__":Str))=false:=by decide)
  (he:AW [a,.Name T p2] X.env=(false,eval a X.env) :: AW [.Name T p2] X.env:=by rfl) (hpl:(Fe pos (AW [.Name T p2] X.env)).any (·.1)=false:=by rfl) (he2:AW [.Name T p2] X.env=[(false,eval (.Name T p2) X.env)]:=by rfl) :
  PE X (.Call (.Name "isinstance" p) [a,.Name T p2] [] pos) (fun σ H Q=>ta σ H fun x H1=>∃ t b,TyOf X.K H1 x t/\Ff X.K t (.type TT)=some b/\Q (.bl b) H1) :=
 zY aFH hg hm aBH (zB ha (zB (aIe (v:=.ty TT) hg2 hT hv rfl hn hd) zE he2) he) (by decide) (by decide) he hpl
end
end L2
set_option maxHeartbeats 4000000
namespace L2
open PySem PySem.Spec PyProof.Rows
noncomputable def yI (cells:List (Str×Addr)):List (Str×Ej)->List (Str×Addr)->Option (List (Str×Addr))
 | [],acc=>some acc
 | (n,k) :: r,acc=>if (k == .free)=true then (match cells.lookup n with
  | some a=>yI cells r ((n,a) :: acc)
  | none=>none) else yI cells r acc
theorem qP {scope:Scope} {env:Env} {cl:List (Str×Addr)} (h:yI env.cells scope.names []=some cl):closureFor scope env=pure cl:=by
 have gen:∀ (l:List (Str×Ej)) (acc cl:List (Str×Addr)),yI env.cells l acc=some cl ->
   (forIn (m:=Sem) l acc fun (x:Str×Ej) (cs:List (Str×Addr))=>if (x.2 == .free)=true then (do let c <- cellOf env x.1; pure (DR ((x.1,c) :: cs))) else pure (DR cs))=pure cl:=by
  intro l
  induction l with
  | nil=>intro acc cl h; cases h; rfl
  | cons y r ih =>
   intro acc cl h
   obtain ⟨n,k⟩:=y
   unfold yI at h
   rw [FK]
   by_cases hk:(k == .free)=true
   ·rw [if_pos hk] at h
    dsimp only
    rw [if_pos hk]
    cases e:env.cells.lookup n with
    | none=>rw [e] at h; cases h
    | some a =>
     rw [e] at h
     have ec:cellOf env n=pure a:=by unfold cellOf; rw [e]
     rw [ec,KJ,KJ]
     exact ih _ _ h
   ·rw [if_neg hk] at h
    dsimp only
    rw [if_neg hk,KJ]
    exact ih _ _ h
 unfold closureFor
 exact (bind_pure _).trans (gen scope.names [] cl h)
theorem jn {cells:List (Str×Addr)}:∀ {l:List (Str×Ej)} {acc cl:List (Str×Addr)},yI cells l acc=some cl->(∀ p∈acc,cells.lookup p.1=some p.2)->∀ p∈cl,cells.lookup p.1=some p.2
 | [],acc,cl,h,ha=>by cases h; exact ha
 | (n,k) :: r,acc,cl,h,ha=>by
  unfold yI at h
  split at h
  ·cases e:cells.lookup n with
   | none=>rw [e] at h; cases h
   | some a =>
    rw [e] at h
    refine jn h fun p hp=>?_
    rcases Aj.mp hp with q | q
    ·subst q; exact e
    ·exact ha p q
  ·exact jn h ha
theorem qj {cells:List (Str×Addr)} {x:Str}:∀ {l:List (Str×Ej)} {acc cl:List (Str×Addr)},yI cells l acc=some cl->((x,Ex)∈l\/∃ c,(x,c)∈acc)->∃ c,(x,c)∈cl
 | [],acc,cl,h,hx=>by
  cases h
  rcases hx with q | q
  ·cases q
  ·exact q
 | (n,k) :: r,acc,cl,h,hx=>by
  unfold yI at h
  split at h
  ·cases e:cells.lookup n with
   | none=>rw [e] at h; cases h
   | some a =>
    rw [e] at h
    refine qj h ?_
    rcases hx with q | ⟨c,q⟩
    ·rcases Aj.mp q with z | z
     ·cases z; exact .inr ⟨a,Am⟩
     ·exact .inl z
    ·exact .inr ⟨c,Al _ q⟩
  ·rename_i hk
   refine qj h ?_
   rcases hx with q | q
   ·rcases Aj.mp q with z | z
    ·cases z; exact absurd rfl hk
    ·exact .inl z
   ·exact .inr q
theorem yZ {α:Type} {x:Str} {c:α}:∀ {l:List (Str×α)},(x,c)∈l->∃ d,l.lookup x=some d/\(x,d)∈l
 | (n,a) :: r,h=>by
  rw [EA]
  by_cases e:(x == n)=true
  ·rw [e]
   have e':x=n:=by simpa using e
   exact ⟨a,rfl,by rw [e']; exact Am⟩
  ·have e2:(x == n)=false:=by simpa using e
   rw [e2]
   rcases Aj.mp h with z | z
   ·cases z; simp at e
   ·obtain ⟨d,h1,h2⟩:=yZ z
    exact ⟨d,h1,Al _ h2⟩
noncomputable def cxC (X:Cx) (N:List Str) (scope:Scope) (cl:List (Str×Addr)) (C:Addr) (s2:Ad) (H2:Hp) (fp:List Addr):Cx where
 prog:=X.prog
 w:=X.w
 K:=X.K
 mg:=X.mg
 base:=X.base
 A:=X.A
 N:=N
 s₀:=s2
 H₀:=H2
 env:=Iw scope cl C X.env
 outer:=X.stack
 stack:=X.stack
 ex:=fp
 fn:=fun _=>false
 calm:=X.calm
 pn:=[]
 xe:=fun _ _=>False
noncomputable def zv (mp:List (Option Nat)) (σ:St):St:=mp.map fun o=>match o with
 | some j=>(σ[j]?).bind id
 | none=>none
noncomputable def PTL (X:Cx) (ifs:List Expr) (t:TT):Prop :=
 ∀ (pins:List (Addr×Obj)) (s:Ad) (σ:St) (H:Hp) (Q:Bool->Hp->Prop),Inv X pins σ H s->t σ H Q ->
  Ar (AB X.prog X.w) X.A (forIn ifs true fun c r=>if r=true then do let ok <- isTrue c X.env (eval c X.env); pure (DR ok) else pure (DR r)) (TP X pins σ Q) X.xe s
section
variable {prog:At} {w:AV} {A:AY} {R:JV->Ad->Prop} {s:Ad}
theorem aCp {elt target iter:Expr} {ifs:List Expr} {scope:Scope} {pos:Pos} {it acc:Value} {env:Env} (I:Nat->Ad->Prop)
  (turn:∀ n s,I n s->Ar (AB prog w) A (Dq it) (fun r s₁=>match r with
   | none=>R (.ok .next) s₁
   | some v=>Ar (AB prog w) A (Cy target it v) (fun _ s1=>Ar (AB prog w) A (HU target env v) (fun _ s₂ =>
     Ar (AB prog w) A (forIn ifs true fun c r=>if r=true then do let ok <- isTrue c env (eval c env); pure (DR ok) else pure (DR r)) (fun ok s₃ =>
      if ok=true then Ar (AB prog w) A (eval elt env) (fun x s₄ =>
       Ar (AB prog w) A (call (.builtin "list.append") [acc,x]) (fun _ s₅=>∃ m,m < n/\I m s₅) (fun _ _=>False) s₄) (fun _ _=>False) s₃
      else ∃ m,m < n/\I m s₃) (fun _ _=>False) s₂) (fun _ _=>False) s1) (fun _ _=>False) s₁) (fun _ _=>False) s)
  (n:Nat) (h:I n s) :
  CA (AB prog w) A (.compLoop (.ListComp elt [⟨target,iter,ifs,0⟩] scope pos) 0 it acc env) R s:=by
 refine Hl rfl I (fun n s hI=>?_) n h
 show Ar _ A ((Hm (.ListComp elt [⟨target,iter,ifs,0⟩] scope pos) 0 it acc env).onRaise (fun x=>do FL x env; FM x)) _ _ s
 refine Ix ?_
 rw [compTurn_list]
 refine Aa (BG (Aa (AT (turn n s hI) (fun r s₁ h₁=>?_) fun _ _ h'=>h'.elim)))
 cases r with
 | none=>exact Ab h₁
 | some v =>
  refine Aa (AT h₁ (fun _ s1 h1=>Aa (AT h1 (fun _ s₂ h₂=>Aa (AT h₂ (fun ok s₃ h₃=>?_) fun _ _ h'=>h'.elim)) fun _ _ h'=>h'.elim)) fun _ _ h'=>h'.elim)
  cases ok with
  | false=>exact Ab ⟨rfl,h₃⟩
  | true =>
   exact Aa (Aa (AT h₃ (fun x s₄ h₄=>Aa (AT h₄ (fun _ s₅ h₅=>Ab (Ab ⟨rfl,h₅⟩)) fun _ _ h'=>h'.elim)) fun _ _ h'=>h'.elim))
end
section
variable {X:Cx}
theorem aCq:PTL X [] (fun _ H Q=>Q true H):=fun pins s σ H Q I h=>wpAny_tests_nil ⟨H,I,h⟩
theorem qX {c:Expr} {t:TT} (h:PT X c t):PTL X [c] t:=fun pins s σ H Q I hq=>wpAny_tests_one (h pins s σ H Q I hq)
noncomputable def aIp (mp:List (Option Nat)) (wi:TI) (g:Addr->Ad->Hp->List Addr->TG) (tt:Addr->Ad->Hp->List Addr->TT) (te:Addr->Ad->Hp->List Addr->TE):TE:=fun σ H Q=>wi σ H fun J H1=>∀ (D:Addr),H1 D=none->∀ (C:Addr) (s2:Ad) (fp:List Addr),
 ∃ W:Nat->Nat->St->Hp->Prop,(∃ m,W 0 m (zv mp σ) (upd H1 D (.lst [])))/\∀ i m σ2 H2,W i m σ2 H2 ->
  (J.stop i H2/\Q (.ref D) H2)\/(J.go i H2/\∃ N:St->Hp->Prop,(∀ σ' H',N σ' H'->∃ m',m' < m/\W (i + 1) m' σ' H')/\∀ x H',J.yld i H2 x H'->g C s2 H1 fp x σ2 H' fun σ3 H3=>tt C s2 H1 fp σ3 H3 fun b H4 =>
   if b=true then te C s2 H1 fp σ3 H4 fun y H5=>∃ xs,H5 D=some (.lst xs)/\xs.length < sizeLine/\N σ3 (upd H5 D (.lst (xs++[y]))) else N σ3 H4)
end
inductive D where
 | non
 | bl (b:Bool)
 | int (i:Int)
 | str (x:Str)
 | tup (l:List D)
 | lst (l:List D)
mutual
noncomputable def Rep (K:Af) (H:Hp):D->V->Prop
 | .non,v=>v=.non
 | .bl b,v=>v=.bl b
 | .int i,v=>v=.int i
 | .str x,v=>v=.str x
 | .tup ds,v=>∃ p xs,v=.ref p/\SqT K H p xs/\Reps K H ds xs
 | .lst ds,v=>∃ p xs,v=.ref p/\SqL K H p xs/\Reps K H ds xs
noncomputable def Reps (K:Af) (H:Hp):List D->List V->Prop
 | [],xs=>xs=[]
 | d :: ds,xs=>∃ x r,xs=x :: r/\Rep K H d x/\Reps K H ds r
end
mutual
noncomputable def eqD:D->D->Bool
 | .non,.non=>true
 | .bl a,.bl b=>a == b
 | .bl a,.int b=>(if a then 1 else 0) == b
 | .int a,.bl b=>a == (if b then 1 else 0)
 | .int a,.int b=>a == b
 | .str a,.str b=>a == b
 | .tup a,.tup b=>eqDs a b
 | .lst a,.lst b=>eqDs a b
 | _,_=>false
noncomputable def eqDs:List D->List D->Bool
 | [],[]=>true
 | a :: r,b :: t=>eqD a b && eqDs r t
 | _,_=>false
end
mutual
noncomputable def D.dep:D->Nat
 | .tup l=>deps l + 1
 | .lst l=>deps l + 1
 | _=>0
noncomputable def deps:List D->Nat
 | []=>0
 | d :: r=>max d.dep (deps r)
end
theorem Reps.len {K:Af} {H:Hp}:∀ {ds:List D} {xs:List V},Reps K H ds xs->ds.length=xs.length
 | [],xs,h=>by
  unfold Reps at h; subst h; rfl
 | d :: ds,xs,h=>by
  unfold Reps at h
  obtain ⟨x,r,rfl,_,h⟩:=h
  rw [AJ,AJ,Reps.len h]
theorem Reps.get {K:Af} {H:Hp}:∀ {ds:List D} {xs:List V} {j:Nat} {d:D},Reps K H ds xs->ds[j]?=some d->∃ x,xs[j]?=some x/\Rep K H d x
 | [],xs,j,d,h,e=>by cases e
 | a :: ds,xs,j,d,h,e=>by
  unfold Reps at h
  obtain ⟨x,r,rfl,h1,h2⟩:=h
  match j,e with
  | 0,e=>cases e; exact ⟨x,rfl,h1⟩
  | j + 1,e=>exact Reps.get (ds:=ds) (j:=j) h2 (by simpa using e)
mutual
theorem aBI:∀ d:D,eqD d d=true
 | .non=>rfl
 | .bl b=>by unfold eqD; simp
 | .int i=>by unfold eqD; simp
 | .str x=>by unfold eqD; simp
 | .tup l=>by unfold eqD; exact eqDs_refl l
 | .lst l=>by unfold eqD; exact eqDs_refl l
theorem eqDs_refl:∀ l:List D,eqDs l l=true
 | []=>by unfold eqDs; rfl
 | d :: r=>by unfold eqDs; rw [aBI d,eqDs_refl r]; rfl
end
section
variable {X:Cx} {pins:List (Addr×Obj)} {σ:St} {H:Hp} {s:Ad}
theorem Inv.list_tup (I:Inv X pins σ H s) {a:Addr} {xs ys:List V} (h1:SqL X.K H a xs) (h2:SqT X.K H a ys):False:=by
 obtain ⟨its,_,⟨o,n,e1,c1,_⟩,_⟩:=I.list h1
 obtain ⟨its2,_,⟨o2,e2,c2,_⟩,_⟩:=I.tuple h2
 rw [e1] at e2; cases e2
 rw [c1] at c2
 injection c2 with c3
 exact absurd c3 (by decide)
mutual
theorem aCr (I:Inv X pins σ H s):∀ (d e:D) (v:V),Rep X.K H d v->Rep X.K H e v->d=e
  | .non,e,v,h1,h2=>by
    unfold Rep at h1; subst h1
    cases e <;> (unfold Rep at h2; first | rfl | (obtain ⟨_,_,z,_⟩:=h2; cases z; done) | cases h2)
  | .bl b,e,v,h1,h2=>by
    unfold Rep at h1; subst h1
    cases e <;> (unfold Rep at h2; first | (obtain ⟨_,_,z,_⟩:=h2; cases z; done) | (cases h2; rfl) | cases h2)
  | .int b,e,v,h1,h2=>by
    unfold Rep at h1; subst h1
    cases e <;> (unfold Rep at h2; first | (obtain ⟨_,_,z,_⟩:=h2; cases z; done) | (cases h2; rfl) | cases h2)
  | .str b,e,v,h1,h2=>by
    unfold Rep at h1; subst h1
    cases e <;> (unfold Rep at h2; first | (obtain ⟨_,_,z,_⟩:=h2; cases z; done) | (cases h2; rfl) | cases h2)
  | .tup l,e,v,h1,h2=>by
    unfold Rep at h1
    obtain ⟨p,xs,rfl,q,r⟩:=h1
    cases e with
    | tup l2 =>
      unfold Rep at h2
      obtain ⟨p2,xs2,z,q2,r2⟩:=h2
      cases z
      rw [I.tuple_inj q2 q] at r2
      rw [reps_inj I l l2 xs r r2]
    | lst l2 =>
      unfold Rep at h2
      obtain ⟨p2,xs2,z,q2,r2⟩:=h2
      cases z
      exact (I.list_tup q2 q).elim
    | _=>unfold Rep at h2; cases h2
  | .lst l,e,v,h1,h2=>by
    unfold Rep at h1
    obtain ⟨p,xs,rfl,q,r⟩:=h1
    cases e with
    | lst l2 =>
      unfold Rep at h2
      obtain ⟨p2,xs2,z,q2,r2⟩:=h2
      cases z
      rw [I.list_inj q2 q] at r2
      rw [reps_inj I l l2 xs r r2]
    | tup l2 =>
      unfold Rep at h2
      obtain ⟨p2,xs2,z,q2,r2⟩:=h2
      cases z
      exact (I.list_tup q q2).elim
    | _=>unfold Rep at h2; cases h2
theorem reps_inj (I:Inv X pins σ H s):∀ (ds es:List D) (xs:List V),Reps X.K H ds xs->Reps X.K H es xs->ds=es
 | [],es,xs,h1,h2=>by
  unfold Reps at h1; subst h1
  cases es with
  | nil=>rfl
  | cons e es=>unfold Reps at h2; obtain ⟨_,_,z,_⟩:=h2; cases z
 | d :: ds,es,xs,h1,h2=>by
  unfold Reps at h1
  obtain ⟨x,r,rfl,a,b⟩:=h1
  cases es with
  | nil=>unfold Reps at h2; cases h2
  | cons e es =>
   unfold Reps at h2
   obtain ⟨x2,r2,z,a2,b2⟩:=h2
   cases z
   rw [aCr I d e x a a2,reps_inj I ds es r b b2]
end
theorem aDf:∀ (ds es:List D),ds.length=es.length->(BQ ds.length).all (fun j=>match ds[j]?,es[j]? with
  | some d,some e=>eqD d e
  | _,_=>false)=eqDs ds es
 | [],[],_=>by unfold eqDs; rfl
 | d :: ds,e :: es,h=>by
  rw [AJ,List.range_succ_eq_map,Iv,List.all_map]
  unfold eqDs
  rw [<- aDf ds es (by simpa using h)]
  rfl
theorem aBJ:∀ (ds es:List D),ds.length≠es.length->eqDs ds es=false
 | [],[],h=>absurd rfl h
 | [],_ :: _,_=>by unfold eqDs; rfl
 | _ :: _,[],_=>by unfold eqDs; rfl
 | d :: ds,e :: es,h=>by
  unfold eqDs
  rw [aBJ ds es (by simpa using h),Hw]
noncomputable def eAt (ds es:List D) (j:Nat):Bool:=match ds[j]?,es[j]? with
  | some d,some e=>eqD d e
  | _,_=>false
theorem aDg {A:AY} {ds es:List D} {xs ys:List V} {us vs:List Value} (r1:Reps X.K H ds xs) (r2:Reps X.K H es ys) (v1:Vals xs us) (v2:Vals ys vs)
  (ih:∀ (j:Nat) (d e:D) (x y:V) (u v:Value),ds[j]?=some d->es[j]?=some e->Rep X.K H d x->Rep X.K H e y->RelV x u->RelV y v->Fy A s u v (eqD d e)) :
  ∀ j (h1:j < us.toArray.size) (h2:j < vs.toArray.size),Fy A s us.toArray[j] vs.toArray[j] (eAt ds es j):=by
 intro j h1 h2
 rw [Ao] at h1 h2
 have l1:=r1.len
 have l2:=r2.len
 have l3:=v1.length
 have l4:=v2.length
 have e1:ds[j]?=some (ds[j]'(by lia)):=Ax _
 have e2:es[j]?=some (es[j]'(by lia)):=Ax _
 obtain ⟨x,hx,px⟩:=r1.get e1
 obtain ⟨y,hy,py⟩:=r2.get e2
 obtain ⟨u,hu,ru⟩:=v1.get hx
 obtain ⟨v,hv,rv⟩:=v2.get hy
 have q:=ih j _ _ x y u v e1 e2 px py ru rv
 have hu':us.toArray[j]'(by simpa using h1)=u:=by
  have:=Ax h1
  rw [hu] at this
  simpa using (Ck this).symm
 have hv':vs.toArray[j]'(by simpa using h2)=v:=by
  have:=Ax h2
  rw [hv] at this
  simpa using (Ck this).symm
 rw [hu',hv']
 unfold eAt
 rw [e1,e2]
 exact q
theorem aC3 {ds es:List D} {n:Nat} (h:ds.length=n) (h2:es.length=n):(BQ n).all (eAt ds es)=eqDs ds es:=by
 rw [<- h,<- aDf ds es (h.trans h2.symm)]
 rfl
theorem aFJ {ds es:List D} {n m:Nat} (h:ds.length=n) (h2:es.length=m):((BQ (min n m)).all (eAt ds es) && (n == m))=eqDs ds es:=by
 by_cases e:n=m
 ·subst e
  rw [LC,aC3 h h2]
  simp
 ·have e2:(n == m)=false:=by simpa using e
  rw [e2,Hw,aBJ ds es (by rw [h,h2]; exact e)]
theorem aDh {A:AY} {l b:Addr} {ds es:List D} {xs ys:List V} (I:Inv X pins σ H s) (h1:SqL X.K H l xs) (h2:SqL X.K H b ys) (r1:Reps X.K H ds xs) (r2:Reps X.K H es ys) (hu:A.units < cLine)
  (ih:∀ (j:Nat) (d e:D) (x y:V) (u v:Value),ds[j]?=some d->es[j]?=some e->Rep X.K H d x->Rep X.K H e y->RelV x u->RelV y v->Fy A.in1 s u v (eqD d e)) :
  MJ A s (.ref l) (.ref b) (eqDs ds es)/\LD A s (.ref l) (.ref b) (!eqDs ds es):=by
 obtain ⟨us,v1,p1,z1⟩:=I.list h1
 obtain ⟨vs,v2,p2,z2⟩:=I.list h2
 have l1:=r1.len
 have l2:=r2.len
 have l3:=v1.length
 have l4:=v2.length
 by_cases e:us.length=vs.length
 ·have it:=aDg r1 r2 v1 v2 ih
  have a1:=SeqAt.RcAt.lists (A:=A) p1.isList p2.isList (by simpa using e) hu it
  have a2:=KL (A:=A) p1.isList p2.isList (by simpa using e) hu it
  rw [aC3 (ds:=ds) (es:=es) (by simp; lia) (by simp; lia)] at a1 a2
  exact ⟨a1,a2⟩
 ·have ne:(us.toArray.size != vs.toArray.size)=true:=by simpa using e
  rw [aBJ ds es (by lia)]
  exact ⟨SeqAt.RcAt.lists_lengths p1.isList p2.isList ne hu,Hb p1.isList p2.isList ne hu⟩
theorem aFK {A:AY} {l b:Addr} {ds es:List D} {xs ys:List V} (I:Inv X pins σ H s) (h1:SqT X.K H l xs) (h2:SqT X.K H b ys) (r1:Reps X.K H ds xs) (r2:Reps X.K H es ys) (hu:A.units < cLine)
  (ih:∀ (j:Nat) (d e:D) (x y:V) (u v:Value),ds[j]?=some d->es[j]?=some e->Rep X.K H d x->Rep X.K H e y->RelV x u->RelV y v->Fy A.in1 s u v (eqD d e)) :
  MJ A s (.ref l) (.ref b) (eqDs ds es)/\LD A s (.ref l) (.ref b) (!eqDs ds es):=by
 obtain ⟨us,v1,p1,z1⟩:=I.tuple h1
 obtain ⟨vs,v2,p2,z2⟩:=I.tuple h2
 have l1:=r1.len
 have l2:=r2.len
 have l3:=v1.length
 have l4:=v2.length
 have it:=aDg r1 r2 v1 v2 ih
 have a1:=SeqAt.RcAt.tuples (A:=A) (show s.heap.IsTuple l us.toArray from p1) (show s.heap.IsTuple b vs.toArray from p2) hu it
 have a2:=SeqAt.RcNeAt.tuples (A:=A) (show s.heap.IsTuple l us.toArray from p1) (show s.heap.IsTuple b vs.toArray from p2) hu it
 rw [aFJ (ds:=ds) (es:=es) (by simp; lia) (by simp; lia)] at a1 a2
 exact ⟨a1,a2⟩
theorem aAA:∀ {l:List D} {j:Nat} {d:D},l[j]?=some d->d.dep<=deps l
 | a :: l,0,d,e=>by cases e; unfold deps; lia
 | a :: l,j + 1,d,e=>by
  have:=aAA (l:=l) (j:=j) (d:=d) (by simpa using e)
  unfold deps; lia
theorem aI6 (I:Inv X pins σ H s):∀ (n:Nat) (A:AY) (d e:D) (x y:V) (u v:Value),d.dep<=n->A.units + n < cLine->Rep X.K H d x->Rep X.K H e y->RelV x u->RelV y v->Fy A s u v (eqD d e):=by
 intro n
 induction n with
 | zero =>
  intro A d e x y u v hd hu r1 r2 ru rv
  have hu0:A.units < cLine:=by lia
  cases d with
  | tup l=>unfold D.dep at hd; lia
  | lst l=>unfold D.dep at hd; lia
  | non =>
   unfold Rep at r1; subst r1; cases ru
   cases e with
   | non=>unfold Rep at r2; subst r2; cases rv; exact GM _
   | bl b=>unfold Rep at r2; subst r2; cases rv; exact JL b
   | int b=>unfold Rep at r2; subst r2; obtain ⟨t,rfl⟩:=rv; exact Kf b t
   | str b=>unfold Rep at r2; subst r2; obtain ⟨t,rfl⟩:=rv; exact Kg b t
   | tup l=>unfold Rep at r2; obtain ⟨p,xs,rfl,q,_⟩:=r2; cases rv; obtain ⟨us,_,pt,_⟩:=I.tuple q; exact SeqAt.EqAt.none_tuple (show s.heap.IsTuple p us.toArray from pt) hu0
   | lst l=>unfold Rep at r2; obtain ⟨p,xs,rfl,q,_⟩:=r2; cases rv; obtain ⟨us,_,pt,_⟩:=I.list q; exact SeqAt.EqAt.none_list pt.isList hu0
  | bl a =>
   unfold Rep at r1; subst r1; cases ru
   cases e with
   | non=>unfold Rep at r2; subst r2; cases rv; exact JM a
   | bl b=>unfold Rep at r2; subst r2; cases rv; exact GA a b
   | int b=>unfold Rep at r2; subst r2; obtain ⟨t,rfl⟩:=rv; exact Kh a b t
   | str b=>unfold Rep at r2; subst r2; obtain ⟨t,rfl⟩:=rv; exact Ki a b t
   | tup l=>unfold Rep at r2; obtain ⟨p,xs,rfl,q,_⟩:=r2; cases rv; obtain ⟨us,_,pt,_⟩:=I.tuple q; exact SeqAt.EqAt.bool_tuple a (show s.heap.IsTuple p us.toArray from pt) hu0
   | lst l=>unfold Rep at r2; obtain ⟨p,xs,rfl,q,_⟩:=r2; cases rv; obtain ⟨us,_,pt,_⟩:=I.list q; exact SeqAt.EqAt.bool_list a pt.isList hu0
  | int a =>
   unfold Rep at r1; subst r1; obtain ⟨t1,rfl⟩:=ru
   cases e with
   | non=>unfold Rep at r2; subst r2; cases rv; exact Kj a t1
   | bl b=>unfold Rep at r2; subst r2; cases rv; exact Kk a t1 b
   | int b=>unfold Rep at r2; subst r2; obtain ⟨t,rfl⟩:=rv; exact KG a t1 b t
   | str b=>unfold Rep at r2; subst r2; obtain ⟨t,rfl⟩:=rv; exact Hg a t1 b t
   | tup l=>unfold Rep at r2; obtain ⟨p,xs,rfl,q,_⟩:=r2; cases rv; obtain ⟨us,_,pt,_⟩:=I.tuple q; exact SeqAt.EqAt.int_tuple a t1 (show s.heap.IsTuple p us.toArray from pt) hu0
   | lst l=>unfold Rep at r2; obtain ⟨p,xs,rfl,q,_⟩:=r2; cases rv; obtain ⟨us,_,pt,_⟩:=I.list q; exact SeqAt.EqAt.int_list a t1 pt.isList hu0
  | str a =>
   unfold Rep at r1; subst r1; obtain ⟨t1,rfl⟩:=ru
   cases e with
   | non=>unfold Rep at r2; subst r2; cases rv; exact Kl a t1
   | bl b=>unfold Rep at r2; subst r2; cases rv; exact Km a t1 b
   | int b=>unfold Rep at r2; subst r2; obtain ⟨t,rfl⟩:=rv; exact Hh a t1 b t
   | str b=>unfold Rep at r2; subst r2; obtain ⟨t,rfl⟩:=rv; exact KH a t1 b t
   | tup l=>unfold Rep at r2; obtain ⟨p,xs,rfl,q,_⟩:=r2; cases rv; obtain ⟨us,_,pt,_⟩:=I.tuple q; exact SeqAt.EqAt.str_tuple a t1 (show s.heap.IsTuple p us.toArray from pt) hu0
   | lst l=>unfold Rep at r2; obtain ⟨p,xs,rfl,q,_⟩:=r2; cases rv; obtain ⟨us,_,pt,_⟩:=I.list q; exact SeqAt.EqAt.str_list a t1 pt.isList hu0
 | succ n ihn =>
  intro A d e x y u v hd hu r1 r2 ru rv
  have hu0:A.units < cLine:=by lia
  have hu1:A.in1.units + n < cLine:=by show A.units + 1 + n < cLine; lia
  cases d with
  | tup l =>
   have r1':=r1
   unfold Rep at r1
   obtain ⟨p,xs,rfl,q,rs⟩:=r1
   cases ru
   have hd':deps l<=n:=by unfold D.dep at hd; lia
   obtain ⟨us,_,pt,_⟩:=id (I.tuple q)
   cases e with
   | non=>unfold Rep at r2; subst r2; cases rv; exact SeqAt.EqAt.tuple_none (show s.heap.IsTuple p us.toArray from pt) hu0
   | bl b=>unfold Rep at r2; subst r2; cases rv; exact SeqAt.EqAt.tuple_bool b (show s.heap.IsTuple p us.toArray from pt) hu0
   | int b=>unfold Rep at r2; subst r2; obtain ⟨t,rfl⟩:=rv; exact SeqAt.EqAt.tuple_int b t (show s.heap.IsTuple p us.toArray from pt) hu0
   | str b=>unfold Rep at r2; subst r2; obtain ⟨t,rfl⟩:=rv; exact SeqAt.EqAt.tuple_str b t (show s.heap.IsTuple p us.toArray from pt) hu0
   | tup l2 =>
    have r2':=r2
    unfold Rep at r2
    obtain ⟨p2,xs2,rfl,q2,rs2⟩:=r2
    cases rv
    by_cases hp:p=p2
    ·subst hp
     rw [aCr I _ _ _ r1' r2',aBI]
     exact GM _
    ·unfold eqD
     exact KM hp (aFK I q q2 rs rs2 hu0 fun j d e x y u v e1 e2 a b c f=>ihn A.in1 d e x y u v (Ay (aAA e1) hd') hu1 a b c f).1
   | lst l2 =>
    unfold Rep at r2
    obtain ⟨p2,xs2,rfl,q2,rs2⟩:=r2
    cases rv
    obtain ⟨us2,_,pt2,_⟩:=I.list q2
    exact SeqAt.EqAt.tuple_list (show s.heap.IsTuple p us.toArray from pt) pt2.isList hu0
  | lst l =>
   have r1':=r1
   unfold Rep at r1
   obtain ⟨p,xs,rfl,q,rs⟩:=r1
   cases ru
   have hd':deps l<=n:=by unfold D.dep at hd; lia
   obtain ⟨us,_,pt,_⟩:=id (I.list q)
   cases e with
   | non=>unfold Rep at r2; subst r2; cases rv; exact SeqAt.EqAt.list_none pt.isList hu0
   | bl b=>unfold Rep at r2; subst r2; cases rv; exact SeqAt.EqAt.list_bool b pt.isList hu0
   | int b=>unfold Rep at r2; subst r2; obtain ⟨t,rfl⟩:=rv; exact SeqAt.EqAt.list_int b t pt.isList hu0
   | str b=>unfold Rep at r2; subst r2; obtain ⟨t,rfl⟩:=rv; exact SeqAt.EqAt.list_str b t pt.isList hu0
   | lst l2 =>
    have r2':=r2
    unfold Rep at r2
    obtain ⟨p2,xs2,rfl,q2,rs2⟩:=r2
    cases rv
    by_cases hp:p=p2
    ·subst hp
     rw [aCr I _ _ _ r1' r2',aBI]
     exact GM _
    ·unfold eqD
     exact KM hp (aDh I q q2 rs rs2 hu0 fun j d e x y u v e1 e2 a b c f=>ihn A.in1 d e x y u v (Ay (aAA e1) hd') hu1 a b c f).1
   | tup l2 =>
    unfold Rep at r2
    obtain ⟨p2,xs2,rfl,q2,rs2⟩:=r2
    cases rv
    obtain ⟨us2,_,pt2,_⟩:=I.tuple q2
    exact SeqAt.EqAt.list_tuple pt.isList (show s.heap.IsTuple p2 us2.toArray from pt2) hu0
  | _=>exact ihn A _ e x y u v (by unfold D.dep; exact AL _) (by lia) r1 r2 ru rv
noncomputable def rEqS (K:Af) (neg:Bool):R2:=fun x y H Q=>∃ ds es,((Rep K H (.lst ds) x/\Rep K H (.lst es) y)\/(Rep K H (.tup ds) x/\Rep K H (.tup es) y))/\deps ds<=50/\Q (.bl (if neg then !eqDs ds es else eqDs ds es)) H
theorem aFL (I:Inv X pins σ H s) {x y:V} {u v:Value} {ds es:List D} (hA:X.A.units + 60 < cLine) (ru:RelV x u) (rv:RelV y v) (h:(Rep X.K H (.lst ds) x/\Rep X.K H (.lst es) y)\/(Rep X.K H (.tup ds) x/\Rep X.K H (.tup es) y)) (hd:deps ds<=50) :
  MJ X.A s u v (eqDs ds es)/\LD X.A s u v (!eqDs ds es):=by
 have ih:∀ (j:Nat) (d e:D) (x y:V) (u v:Value),ds[j]?=some d->es[j]?=some e->Rep X.K H d x->Rep X.K H e y->RelV x u->RelV y v->Fy X.A.in1 s u v (eqD d e) :=
  fun j d e x y u v e1 e2 a b c f=>aI6 I 50 X.A.in1 d e x y u v (Ay (aAA e1) hd) (by show X.A.units + 1 + 50 < cLine; lia) a b c f
 rcases h with ⟨h1,h2⟩ | ⟨h1,h2⟩
 ·unfold Rep at h1 h2
  obtain ⟨p,xs,rfl,q,rs⟩:=h1
  obtain ⟨p2,xs2,rfl,q2,rs2⟩:=h2
  cases ru; cases rv
  exact aDh I q q2 rs rs2 (by lia) ih
 ·unfold Rep at h1 h2
  obtain ⟨p,xs,rfl,q,rs⟩:=h1
  obtain ⟨p2,xs2,rfl,q2,rs2⟩:=h2
  cases ru; cases rv
  exact aFK I q q2 rs rs2 (by lia) ih
theorem aKJ (hA:X.A.units + 60 < cLine):OpR X (DQ .Eq) (rEqS X.K false):=by
 intro pins s σ H x y u v Q I ru rv h
 obtain ⟨ds,es,h,hd,q⟩:=h
 exact (aFL I hA ru rv h hd).1 X.prog X.w X.xe _ ⟨.bl (eqDs ds es),H,I,rfl,q⟩
theorem aFM (hA:X.A.units + 60 < cLine):OpR X (DQ .NotEq) (rEqS X.K true):=by
 intro pins s σ H x y u v Q I ru rv h
 obtain ⟨ds,es,h,hd,q⟩:=h
 exact (aFL I hA ru rv h hd).2 X.prog X.w X.xe _ ⟨.bl (!eqDs ds es),H,I,rfl,q⟩
theorem aBK (hA:X.A.units + 60 < cLine):OpR X (DQ .NotEq) (fun x y H Q=>∃ p b xs,x=.ref p/\y=.ref b/\SqL X.K H p xs/\SqL X.K H b []/\Q (.bl (!xs.isEmpty)) H):=by
 intro pins s σ H x y u v Q I ru rv h
 obtain ⟨p,b,xs,rfl,rfl,q1,q2,q⟩:=h
 cases ru; cases rv
 obtain ⟨us,v1,p1,_⟩:=I.list q1
 obtain ⟨vs,v2,p2,_⟩:=I.list q2
 cases v2
 cases v1 with
 | nil =>
  have a:=KL (A:=X.A) (e:=fun _=>true) p1.isList p2.isList rfl (by lia) (fun j h1 _=>absurd h1 (by simp))
  exact a X.prog X.w X.xe _ ⟨.bl false,H,I,rfl,q⟩
 | cons r1 r2 =>
  exact Hb (A:=X.A) p1.isList p2.isList (by simp) (by lia) X.prog X.w X.xe _ ⟨.bl true,H,I,rfl,q⟩
theorem aC4 {K:Af} {H:Hp}:∀ ns:List Int,Reps K H (ns.map D.int) (ns.map V.int)
 | []=>by show Reps K H [] []; unfold Reps; rfl
 | n :: r=>by show Reps K H (D.int n :: r.map D.int) (V.int n :: r.map V.int); unfold Reps; exact ⟨_,_,rfl,(by unfold Rep; rfl),aC4 r⟩
theorem aC5:∀ ns ms:List Int,eqDs (ns.map D.int) (ms.map D.int)=decide (ns=ms)
 | [],[]=>by rw [BX]; unfold eqDs; rfl
 | [],_ :: _=>by rw [BX,AA]; unfold eqDs; rfl
 | _ :: _,[]=>by rw [BX,AA]; unfold eqDs; rfl
 | n :: ns,m :: ms=>by
  rw [AA,AA]
  unfold eqDs
  rw [aC5 ns ms]
  unfold eqD
  by_cases h:n=m
  ·subst h
   by_cases h2:ns=ms
   ·subst h2; simp
   ·simp [h2]
  ·simp [h]
theorem aC6:∀ ns:List Int,deps (ns.map D.int)=0
 | []=>by rw [BX]; unfold deps; rfl
 | n :: r=>by rw [AA]; unfold deps; rw [aC6 r]; unfold D.dep; rfl
end
end L2
namespace L2
open PySem PySem.Spec PyProof.Rows
section
variable {X:Cx} {pos:Pos}
theorem hu60 {k:Nat} {A:AY} (hr:Room k A):A.units + 60 < cLine:=by have:=hr.units; lia
noncomputable def aAw (XN:List Str) (xn:List (Str×Ej)) (N:List Str) (cn:List (Str×Ej)):List (Option Nat)->Nat->Bool
 | [],_=>true
 | none :: r,i=>aAw XN xn N cn r (i + 1)
 | some j :: r,i=>(match N[i]? with
  | some x=>XN[j]? == some x && (xn.lookup x == some .cell || xn.lookup x == some .free) && cn.lookup x == some .free
  | none=>false) && aAw XN xn N cn r (i + 1)
theorem aAO {XN:List Str} {xn:List (Str×Ej)} {N:List Str} {cn:List (Str×Ej)}:∀ {mp:List (Option Nat)} {k:Nat},aAw XN xn N cn mp k=true->∀ (i j:Nat),mp[i]?=some (some j)->∃ x,N[k + i]?=some x/\XN[j]?=some x/\(xn.lookup x=some .cell\/xn.lookup x=some .free)/\cn.lookup x=some .free
 | [],k,h,i,j,e=>by cases e
 | none :: r,k,h,0,j,e=>by cases e
 | none :: r,k,h,i + 1,j,e=>by
  have:=aAO (mp:=r) (k:=k + 1) h i j (by simpa using e)
  rw [show k + (i + 1)=k + 1 + i by lia]; exact this
 | some m :: r,k,h,0,j,e=>by
  cases e
  unfold aAw at h
  rw [AD] at h
  have h1:=h.1
  cases en:N[k]? with
  | none=>rw [en] at h1; cases h1
  | some x =>
   rw [en] at h1
   simp only [AD,Mj,beq_iff_eq] at h1
   exact ⟨x,rfl,h1.1.1,h1.1.2,h1.2⟩
 | some m :: r,k,h,i + 1,j,e=>by
  unfold aAw at h
  rw [AD] at h
  have:=aAO (mp:=r) (k:=k + 1) h.2 i j (by simpa using e)
  rw [show k + (i + 1)=k + 1 + i by lia]; exact this
noncomputable def qz (Pv:Nat->List V->St->Hp->Prop) (D:Addr) (i:Nat):St->Hp->Prop:=fun σ' H'=>∃ ys,ys.length<=i + 1/\Pv (i + 1) ys σ' H'/\H' D=some (.lst ys)
theorem qE {K:Af} {a:Addr} {xs:List V} {H1:Hp} {D:Addr} {σ0:St} {g:TG} {tt:TT} {te:TE} {R:Hp->Prop}
  (Pv:Nat->List V->St->Hp->Prop) (hl:∀ i ys σ H2,Pv i ys σ H2->SqL K H2 a xs) (h0:Pv 0 [] σ0 (upd H1 D (.lst [])))
  (hs:∀ i x ys σ H2,xs[i]?=some x->ys.length<=i->Pv i ys σ H2->H2 D=some (.lst ys)->g x σ H2 fun σ3 H3=>tt σ3 H3 fun b H4=>if b=true then te σ3 H4 fun y H5=>∃ zs,H5 D=some (.lst zs)/\zs.length < sizeLine/\qz Pv D i σ3 (upd H5 D (.lst (zs++[y]))) else qz Pv D i σ3 H4)
  (hd:∀ ys σ H2,Pv xs.length ys σ H2->H2 D=some (.lst ys)->R H2) :
  ∃ W:Nat->Nat->St->Hp->Prop,(∃ m,W 0 m σ0 (upd H1 D (.lst [])))/\∀ i m σ2 H2,W i m σ2 H2 ->
  ((Itl K a).stop i H2/\R H2)\/((Itl K a).go i H2/\∃ N:St->Hp->Prop,(∀ σ' H',N σ' H'->∃ m',m' < m/\W (i + 1) m' σ' H')/\∀ x H',(Itl K a).yld i H2 x H'->g x σ2 H' fun σ3 H3=>tt σ3 H3 fun b H4 =>
   if b=true then te σ3 H4 fun y H5=>∃ xs,H5 D=some (.lst xs)/\xs.length < sizeLine/\N σ3 (upd H5 D (.lst (xs++[y]))) else N σ3 H4):=by
 refine ⟨fun i m σ H'=>m=xs.length - i/\i<=xs.length/\∃ ys,ys.length<=i/\Pv i ys σ H'/\H' D=some (.lst ys),⟨xs.length,by simp,AL _,[],Ak _,h0,zC⟩,?_⟩
 rintro i m σ2 H2 ⟨rfl,hi,ys,hy,p,e⟩
 have q:=hl i ys σ2 H2 p
 by_cases hlt:i < xs.length
 ·refine .inr ⟨⟨xs,xs[i],q,by simp [hlt]⟩,qz Pv D i,fun σ' H' ⟨ys',l',p',e'⟩=>⟨xs.length - (i + 1),by lia,rfl,hlt,ys',l',p',e'⟩,fun x' H' y=>?_⟩
  obtain ⟨e1,y⟩:=y
  subst e1
  exact hs i x' ys σ2 _ (y xs q) hy p e
 ·have ei:i=xs.length:=by lia
  subst ei
  exact .inl ⟨⟨xs,q,Ak _⟩,hd ys σ2 H2 p e⟩
theorem aHC {K:Af} {a:Addr} {xs:List V} {H1:Hp} {D:Addr} {σ0:St} {g:TG} {tt:TT} {te:TE} {R:Hp->Prop}
  (Pv:Nat->List V->St->Hp->Prop) (hl:∀ i ys σ H2,Pv i ys σ H2->SqT K H2 a xs) (h0:Pv 0 [] σ0 (upd H1 D (.lst [])))
  (hs:∀ i x ys σ H2,xs[i]?=some x->ys.length<=i->Pv i ys σ H2->H2 D=some (.lst ys)->g x σ H2 fun σ3 H3=>tt σ3 H3 fun b H4=>if b=true then te σ3 H4 fun y H5=>∃ zs,H5 D=some (.lst zs)/\zs.length < sizeLine/\qz Pv D i σ3 (upd H5 D (.lst (zs++[y]))) else qz Pv D i σ3 H4)
  (hd:∀ ys σ H2,Pv xs.length ys σ H2->H2 D=some (.lst ys)->R H2) :
  ∃ W:Nat->Nat->St->Hp->Prop,(∃ m,W 0 m σ0 (upd H1 D (.lst [])))/\∀ i m σ2 H2,W i m σ2 H2 ->
  ((Itt K a).stop i H2/\R H2)\/((Itt K a).go i H2/\∃ N:St->Hp->Prop,(∀ σ' H',N σ' H'->∃ m',m' < m/\W (i + 1) m' σ' H')/\∀ x H',(Itt K a).yld i H2 x H'->g x σ2 H' fun σ3 H3=>tt σ3 H3 fun b H4 =>
   if b=true then te σ3 H4 fun y H5=>∃ xs,H5 D=some (.lst xs)/\xs.length < sizeLine/\N σ3 (upd H5 D (.lst (xs++[y]))) else N σ3 H4):=by
 refine ⟨fun i m σ H'=>m=xs.length - i/\i<=xs.length/\∃ ys,ys.length<=i/\Pv i ys σ H'/\H' D=some (.lst ys),⟨xs.length,by simp,AL _,[],Ak _,h0,zC⟩,?_⟩
 rintro i m σ2 H2 ⟨rfl,hi,ys,hy,p,e⟩
 have q:=hl i ys σ2 H2 p
 by_cases hlt:i < xs.length
 ·refine .inr ⟨⟨xs,xs[i],q,by simp [hlt]⟩,qz Pv D i,fun σ' H' ⟨ys',l',p',e'⟩=>⟨xs.length - (i + 1),by lia,rfl,hlt,ys',l',p',e'⟩,fun x' H' y=>?_⟩
  obtain ⟨e1,y⟩:=y
  subst e1
  exact hs i x' ys σ2 _ (y xs q) hy p e
 ·have ei:i=xs.length:=by lia
  subst ei
  exact .inl ⟨⟨xs,q,Ak _⟩,hd ys σ2 H2 p e⟩
theorem aEP {lo:Int} {n:Nat} {H1:Hp} {D:Addr} {σ0:St} {g:TG} {tt:TT} {te:TE} {R:Hp->Prop}
  (Pv:Nat->List V->St->Hp->Prop) (h0:Pv 0 [] σ0 (upd H1 D (.lst [])))
  (hs:∀ i ys σ H2,i < n->ys.length<=i->Pv i ys σ H2->H2 D=some (.lst ys)->g (.int (lo + i)) σ H2 fun σ3 H3=>tt σ3 H3 fun b H4=>if b=true then te σ3 H4 fun y H5=>∃ zs,H5 D=some (.lst zs)/\zs.length < sizeLine/\qz Pv D i σ3 (upd H5 D (.lst (zs++[y]))) else qz Pv D i σ3 H4)
  (hd:∀ ys σ H2,Pv n ys σ H2->H2 D=some (.lst ys)->R H2) :
  ∃ W:Nat->Nat->St->Hp->Prop,(∃ m,W 0 m σ0 (upd H1 D (.lst [])))/\∀ i m σ2 H2,W i m σ2 H2 ->
  ((Itr lo n).stop i H2/\R H2)\/((Itr lo n).go i H2/\∃ N:St->Hp->Prop,(∀ σ' H',N σ' H'->∃ m',m' < m/\W (i + 1) m' σ' H')/\∀ x H',(Itr lo n).yld i H2 x H'->g x σ2 H' fun σ3 H3=>tt σ3 H3 fun b H4 =>
   if b=true then te σ3 H4 fun y H5=>∃ xs,H5 D=some (.lst xs)/\xs.length < sizeLine/\N σ3 (upd H5 D (.lst (xs++[y]))) else N σ3 H4):=by
 refine ⟨fun i m σ H'=>m=n - i/\i<=n/\∃ ys,ys.length<=i/\Pv i ys σ H'/\H' D=some (.lst ys),⟨n,by simp,AL _,[],Ak _,h0,zC⟩,?_⟩
 rintro i m σ2 H2 ⟨rfl,hi,ys,hy,p,e⟩
 by_cases hlt:i < n
 ·refine .inr ⟨hlt,qz Pv D i,fun σ' H' ⟨ys',l',p',e'⟩=>⟨n - (i + 1),by lia,rfl,hlt,ys',l',p',e'⟩,fun x' H' y=>?_⟩
  obtain ⟨e1,y⟩:=y
  subst e1 y
  exact hs i ys σ2 _ hlt hy p e
 ·have ei:i=n:=by lia
  subst ei
  exact .inl ⟨Ak _,hd ys σ2 H2 p e⟩
end
section
variable {prog:At} {w:AV} {A:AY} {E:Value->Ad->Prop} {s:Ad}
theorem jo {ti tt:Addr} {k:Nat} {vs:Array Value} {v:Value} {Q:Value->Ad->Prop} (hp:s.heap.IsTupleIter ti tt k) (hc:s.heap.IsTuple tt vs) (hv:vs[k]?=some v)
  (hq:∀ g,g.IsTupleIter ti tt (k + 1)->Cc ti s.heap g->Q v { s with heap:=g }):Ar (AB prog w) A (BU (.ref ti)) Q E s:=by
 obtain ⟨ob,e0,e1,e2⟩:=id hp
 obtain ⟨oc,c0,_,nc,c2⟩:=hc
 unfold BU
 refine Aa (Bl (name:=CW "__next__") hp.typeIs DU (AN DU hp.typeIs GO ?_ (GF _)))
 show Ar _ _ (Ny (.ref ti) 0 >>= _) _ _ s
 refine Aa (Ci e0 e2 (x:=.ref tt) rfl ?_)
 show Ar _ _ (if (Value.ref tt == BY)=true then _ else _) _ _ s
 rw [if_neg (show ¬ ((Value.ref tt == BY)=true) from Av)]
 show Ar _ _ (Ny (.ref ti) 1 >>= _) _ _ s
 refine Aa (Ci e0 e2 (x:=.int k 0) rfl ?_)
 show Ar _ _ (KN (.ref tt) >>= _) _ _ s
 refine Aa (CF c0 c2 ?_)
 simp only [BZ,hv]
 refine Aa (CG e0 e2 (by simp) (Ab ⟨v,rfl,Ab (hq _ ?_ (AX ..))⟩))
 exact ⟨_,AQ _ e0 (Cf (Bv e2 _)),(DK ..).trans e1,by rw [Bv e2]; simp [Dr]⟩
theorem aAx {ti tt:Addr} {k:Nat} {vs:Array Value} {Q:Value->Ad->Prop} (hh:A.handled=none) (hp:s.heap.IsTupleIter ti tt k) (hc:s.heap.IsTuple tt vs) (hv:vs[k]?=none)
  (hE:∀ g e,Iy ti s.heap g->(∃ o,g.get? e=some o/\o.cls=.type "StopIteration")->E (.ref e) { s with heap:=g }):Ar (AB prog w) A (BU (.ref ti)) Q E s:=by
 obtain ⟨ob,e0,e1,e2⟩:=id hp
 obtain ⟨oc,c0,_,nc,c2⟩:=hc
 unfold BU
 refine Aa (Bl (name:=CW "__next__") hp.typeIs DU (AN DU hp.typeIs GO ?_ (GF _)))
 show Ar _ _ (Ny (.ref ti) 0 >>= _) _ _ s
 refine Aa (Ci e0 e2 (x:=.ref tt) rfl ?_)
 show Ar _ _ (if (Value.ref tt == BY)=true then _ else _) _ _ s
 rw [if_neg (show ¬ ((Value.ref tt == BY)=true) from Av)]
 show Ar _ _ (Ny (.ref ti) 1 >>= _) _ _ s
 refine Aa (Ci e0 e2 (x:=.int k 0) rfl ?_)
 show Ar _ _ (KN (.ref tt) >>= _) _ _ s
 refine Aa (CF c0 c2 ?_)
 simp only [BZ,hv]
 refine Aa (CK (Aa (CG e0 e2 (by simp) ?_)))
 show Ar _ _ (Mk (.type "StopIteration") [] >>= _) _ _ _
 refine Aa ?_
 simp only [Mk,KO]
 refine Aa (Bd ?_ (by size_fits))
 refine Aa (m:=Ef _ _) (Ey (a:=BY) (by first | rfl | (simp only [Ef]; done)) ?_)
 refine Bd ?_ (by size_fits)
 simp only [Mc]
 refine Aa (GG ?_)
 first | rw [show A.in1.handled=none from hh] | rw [hh]
 refine Aa (Ab (Iz ?_))
 exact hE _ _ (((AX ..).extBut.push _).push _) ⟨_,Ag _ rfl,rfl⟩
structure ZT (h:Heap) (z ti to i j a b:Addr) (f0:Value) (k:Nat):Prop where
 zz:MQ h z ti to f0
 pi:HZ h ti (.ref i) (.ref j)
 po:∃ x y,HZ h to x y
 ia:h.IsTupleIter i a k
 jb:h.IsTupleIter j b k
theorem aFN {z ti to i j a b:Addr} {k:Nat} {xs ys:Array Value} {x y:Value} {Q:Value->Ad->Prop} (D:MR z ti to i j a b) (Z:ZT s.heap z ti to i j a b .none k)
  (ha:s.heap.IsTuple a xs) (hb:s.heap.IsTuple b ys) (hx:xs[k]?=some x) (hy:ys[k]?=some y)
  (hq:∀ g,ZT g z ti to i j a b (Dr s.heap.objs.size) (k + 1)->HZ g s.heap.objs.size x y->g.objs.size=s.heap.objs.size + 1 ->
   (∀ c o,c≠z->c≠to->c≠i->c≠j->s.heap.get? c=some o->g.get? c=some o)->Q (.ref s.heap.objs.size) { s with heap:=g }) :
  Ar (AB prog w) A (Builtin.«zip.__next__» ⟨[.ref z],[]⟩) (fun fin s'=>∃ v,fin=.done (.ret v)/\Q v s') E s:=by
 obtain ⟨Zz,Zi,⟨u,v,Zo⟩,Za,Zb⟩:=Z
 show Ar _ _ (Ny (.ref z) 2 >>= _) _ _ _
 refine Aa (Ci Zz rfl (x:=.bool false) rfl ?_)
 show Ar _ _ (Ny (.ref z) 3 >>= _) _ _ _
 refine Aa (Ci Zz rfl (x:=.ref ti) rfl (Aa (CF Zi rfl ?_)))
 show Ar _ _ (CU (.ref z) >>= _) _ _ _
 refine Aa ?_
 unfold CU
 refine Aa (Ci Zz rfl (x:=.none) rfl (Ab ?_))
 simp only [if_true]
 refine Aa (CK (Aa (Ci Zz rfl (x:=.ref to) rfl (Aa (Ct Zz (by simp) fun g1 z1 b1=>?_)))))
 replace z1:MQ g1 z ti to .ellipsis:=z1
 refine Aa ?_
 simp only [IQ,GP,FK,JY]
 refine Aa (Aa (IA ?_))
 show Ar _ _ (BU (.ref i) >>= _) _ _ _
 refine Aa (jo (Za.extBut b1.extBut D.i1z) (ha.extBut b1.extBut D.l1z) hx fun g2 p2 b2=>Ab ?_)
 have o2:HZ g2 to u v:=b2.extBut _ _ D.TOi1 (b1.extBut _ _ D.TOz Zo)
 refine Aa (CF o2 rfl (Aa (GC o2 fun g3 o3 b3=>?_)))
 replace o3:HZ g3 to x v:=o3
 refine Aa (EN (Ab (Aa (Aa (IA ?_)))))
 show Ar _ _ (BU (.ref j) >>= _) _ _ _
 refine Aa (jo (((Zb.extBut b1.extBut D.i2z).extBut b2.extBut D.i12.symm).extBut b3.extBut D.TOi2.symm) (((hb.extBut b1.extBut D.l2z).extBut b2.extBut D.l2i1).extBut b3.extBut D.l2TO) hy fun g4 p4 b4=>Ab ?_)
 have o4:HZ g4 to x v:=b4.extBut _ _ D.TOi2 o3
 refine Aa (CF o4 rfl (Aa (GC o4 fun g5 o5 b5=>?_)))
 replace o5:HZ g5 to x y:=o5
 refine Aa (EN (Ab (Ab (Aa (CF o5 rfl (Aa (Hx ?_)))))))
 have sz:g5.objs.size=s.heap.objs.size:=by rw [b5.1,b4.1,b3.1,b2.1,b1.1]
 have z5:MQ g5 z ti to .ellipsis:=b5.extBut _ _ D.TOz.symm (b4.extBut _ _ D.i2z.symm (b3.extBut _ _ D.TOz.symm (b2.extBut _ _ D.i1z.symm z1)))
 have keep5:∀ c o,c≠z->c≠to->c≠i->c≠j->s.heap.get? c=some o->g5.get? c=some o:=fun c o n1 n2 n3 n4 e=>b5.extBut _ _ n2 (b4.extBut _ _ n4 (b3.extBut _ _ n2 (b2.extBut _ _ n3 (b1.extBut _ _ n1 e))))
 have pa5:g5.IsTupleIter i a (k + 1):=((p2.extBut b3.extBut D.TOi1.symm).extBut b4.extBut D.i12).extBut b5.extBut D.TOi1.symm
 have pb5:g5.IsTupleIter j b (k + 1):=p4.extBut b5.extBut D.TOi2.symm
 have zlt:z < g5.objs.size:=Ap z5
 show Ar _ _ (Fh (.ref z) (.ref g5.objs.size) >>= _) _ _ _
 refine Aa ?_
 unfold Fh
 have z6:MQ (g5.push { cls:=.type "tuple",data:=.seq #[x,y] }) z ti to .ellipsis:=Ac _ z5
 refine Aa (Ct z6 (by simp) fun g7 z7 b7=>?_)
 replace z7:MQ g7 z ti to (Dr g5.objs.size):=z7
 refine Ct z7 (by simp) fun g8 z8 b8=>?_
 replace z8:MQ g8 z ti to (Dr g5.objs.size):=z8
 have keep8:∀ c o,c≠z->g5.get? c=some o->g8.get? c=some o:=fun c o n e=>b8.extBut _ _ n (b7.extBut _ _ n (Ac _ e))
 have new8:HZ g8 g5.objs.size x y:=b8.extBut _ _ (Cd zlt) (b7.extBut _ _ (Cd zlt) (Ag _ rfl))
 have sz8:g8.objs.size=g5.objs.size + 1:=by rw [b8.1,b7.1,Bo]
 rw [sz] at z8 new8 sz8
 refine Ab ⟨_,rfl,?_⟩
 show Q (.ref g5.objs.size) _
 rw [sz]
 exact hq g8 ⟨z8,keep8 _ _ D.TIz (keep5 _ _ D.TIz D.TITO D.TIi1 D.TIi2 Zi),⟨x,y,keep8 _ _ D.TOz o5⟩,pa5.at fun o e=>keep8 _ o D.i1z e,pb5.at fun o e=>keep8 _ o D.i2z e⟩ new8 sz8 fun c o n1 n2 n3 n4 e=>keep8 c o n1 (keep5 c o n1 n2 n3 n4 e)
theorem aFO {z ti to i j a b:Addr} {k:Nat} {xs ys:Array Value} {Q:PySem.Fin->Ad->Prop} (hh:A.handled=none) (D:MR z ti to i j a b) (Z:ZT s.heap z ti to i j a b .none k)
  (ha:s.heap.IsTuple a xs) (hb:s.heap.IsTuple b ys) (hend:xs[k]?=none\/ys[k]?=none)
  (hE:∀ g e,(∀ c o,c≠z->c≠to->c≠i->c≠j->s.heap.get? c=some o->g.get? c=some o)->(∃ o,g.get? e=some o/\o.cls=.type "StopIteration")->E (.ref e) { s with heap:=g }) :
  Ar (AB prog w) A (Builtin.«zip.__next__» ⟨[.ref z],[]⟩) Q E s:=by
 obtain ⟨Zz,Zi,⟨u,v,Zo⟩,Za,Zb⟩:=Z
 show Ar _ _ (Ny (.ref z) 2 >>= _) _ _ _
 refine Aa (Ci Zz rfl (x:=.bool false) rfl ?_)
 show Ar _ _ (Ny (.ref z) 3 >>= _) _ _ _
 refine Aa (Ci Zz rfl (x:=.ref ti) rfl (Aa (CF Zi rfl ?_)))
 show Ar _ _ (CU (.ref z) >>= _) _ _ _
 refine Aa ?_
 unfold CU
 refine Aa (Ci Zz rfl (x:=.none) rfl (Ab ?_))
 simp only [if_true]
 refine Aa (CK (Aa (Ci Zz rfl (x:=.ref to) rfl (Aa (Ct Zz (by simp) fun g1 z1 b1=>?_)))))
 replace z1:MQ g1 z ti to .ellipsis:=z1
 refine Aa ?_
 simp only [IQ,GP,FK,JY]
 refine Aa (Aa (IA ?_))
 show Ar _ _ (BU (.ref i) >>= _) _ _ _
 cases hx:xs[k]? with
 | none =>
  refine Aa (aAx hh (Za.extBut b1.extBut D.i1z) (ha.extBut b1.extBut D.l1z) hx fun g2 e b2 ⟨oe,q1,q2⟩=>?_)
  have z2:MQ g2 z ti to .ellipsis:=b2 _ _ D.i1z.symm z1
  have ez:e≠z:=fun x=>by
   subst x
   rw [z2] at q1
   cases q1
   simp at q2
  exact Ct z2 (by simp) fun g3 _ b3=>hE g3 e (fun c o n1 _ n3 _ x=>b3.extBut _ _ n1 (b2 _ _ n3 (b1.extBut _ _ n1 x))) ⟨oe,b3.extBut _ _ ez q1,q2⟩
 | some x =>
  have hy:ys[k]?=none:=hend.elim (fun h=>by rw [hx] at h; cases h) id
  refine Aa (jo (Za.extBut b1.extBut D.i1z) (ha.extBut b1.extBut D.l1z) hx fun g2 p2 b2=>Ab ?_)
  have o2:HZ g2 to u v:=b2.extBut _ _ D.TOi1 (b1.extBut _ _ D.TOz Zo)
  refine Aa (CF o2 rfl (Aa (GC o2 fun g3 o3 b3=>Aa (EN (Ab (Aa (Aa (IA ?_))))))))
  show Ar _ _ (BU (.ref j) >>= _) _ _ _
  refine Aa (aAx hh (((Zb.extBut b1.extBut D.i2z).extBut b2.extBut D.i12.symm).extBut b3.extBut D.TOi2.symm) (((hb.extBut b1.extBut D.l2z).extBut b2.extBut D.l2i1).extBut b3.extBut D.l2TO) hy fun g4 e b4 ⟨oe,q1,q2⟩=>?_)
  have z4:MQ g4 z ti to .ellipsis:=b4 _ _ D.i2z.symm (b3.extBut _ _ D.TOz.symm (b2.extBut _ _ D.i1z.symm z1))
  have ez:e≠z:=fun x=>by
   subst x
   rw [z4] at q1
   cases q1
   simp at q2
  exact Ct z4 (by simp) fun g5 _ b5=>hE g5 e (fun c o n1 n2 n3 n4 x=>b5.extBut _ _ n1 (b4 _ _ n4 (b3.extBut _ _ n2 (b2.extBut _ _ n3 (b1.extBut _ _ n1 x))))) ⟨oe,b5.extBut _ _ ez q1,q2⟩
noncomputable abbrev zt1 (h:Heap) (a:Addr):Heap:=h.push { cls:=.type "tuple_iterator",data:=.fields #[.ref a,.int 0 0] }
noncomputable abbrev zt2 (h:Heap) (a b:Addr):Heap:=(zt1 h a).push { cls:=.type "tuple_iterator",data:=.fields #[.ref b,.int 0 0] }
noncomputable abbrev zt3 (h:Heap) (a b:Addr):Heap:=(zt2 h a b).push { cls:=.type "tuple",data:=.seq #[.ref h.objs.size,.ref (zt1 h a).objs.size] }
noncomputable abbrev zt4 (h:Heap) (a b:Addr):Heap:=(zt3 h a b).push { cls:=.type "tuple",data:=.seq #[.none,.none] }
noncomputable abbrev zt5 (h:Heap) (a b:Addr):Heap:=(zt4 h a b).push { cls:=.type "zip",data:=.fields #[.none,.bool false,.bool false,.ref (zt2 h a b).objs.size,.ref (zt3 h a b).objs.size] }
theorem aEQ (a b:Addr) (xs ys:Array Value):Meets (Builtin.«zip.__new__» ⟨[.type "zip",.ref a,.ref b],[]⟩)
  (fun _ R s=>s.heap.IsTuple a xs/\s.heap.IsTuple b ys/\R (.ok (.ret (.ref (zt4 s.heap a b).objs.size))) { s with heap:=zt5 s.heap a b }) :=
 .of_wp fun prog w A R s h=>by
  obtain ⟨hp,g,d,tk,os⟩:=s
  obtain ⟨h1,h2,h⟩:=h
  have hsub:=sub_zip
  have t1:Nl (Nz ⟨hp,g,d,tk,os⟩) a xs:=h1
  have t2:Nl (Nz ⟨hp.push { cls:=.type "tuple_iterator",data:=.fields #[.ref a,.int 0 0] },g,d,tk,os⟩) b ys:=Heap.IsTuple.push h2 _
  wp_walk using EI t1,EI t2
  exact ⟨_,rfl,h⟩
theorem aFP {a b:Addr} {xs ys:Array Value} {Q:Value->Ad->Prop} (ha:s.heap.IsTuple a xs) (hb:s.heap.IsTuple b ys)
  (h:∀ g,ZT g (s.heap.objs.size + 4) (s.heap.objs.size + 2) (s.heap.objs.size + 3) s.heap.objs.size (s.heap.objs.size + 1) a b .none 0->g.objs.size=s.heap.objs.size + 5->(∀ c o,s.heap.get? c=some o->g.get? c=some o) ->
   Q (.ref (s.heap.objs.size + 4)) { s with heap:=g }):Ar (AB prog w) A (call (.type "zip") [.ref a,.ref b]) Q E s:=by
 refine callType_new F.called_zip (by decide) (F.typeCall_zip_2 _ _) (F.newCall_zip_2 _ _) (fun obj=>F.args_object_init_3 obj _ _) F.entry_zip_new (aEQ a b xs ys) ⟨ha,hb,?_⟩
 have z1:(zt1 s.heap a).objs.size=s.heap.objs.size + 1:=Bo ..
 have z2:(zt2 s.heap a b).objs.size=s.heap.objs.size + 2:=by rw [Bo,z1]
 have z3:(zt3 s.heap a b).objs.size=s.heap.objs.size + 3:=by rw [Bo,z2]
 have z4:(zt4 s.heap a b).objs.size=s.heap.objs.size + 4:=by rw [Bo,z3]
 have z5:(zt5 s.heap a b).objs.size=s.heap.objs.size + 5:=by rw [Bo,z4]
 have g5:(zt5 s.heap a b).get? (zt4 s.heap a b).objs.size=some _:=Ag _ rfl
 have g4:(zt5 s.heap a b).get? (zt3 s.heap a b).objs.size=some _:=Ac _ (Ag _ rfl)
 have g3:(zt5 s.heap a b).get? (zt2 s.heap a b).objs.size=some _:=Ac _ (Ac _ (Ag _ rfl))
 have g2:(zt5 s.heap a b).get? (zt1 s.heap a).objs.size=some _:=Ac _ (Ac _ (Ac _ (Ag _ rfl)))
 have g1:(zt5 s.heap a b).get? s.heap.objs.size=some _:=Ac _ (Ac _ (Ac _ (Ac _ (Ag _ rfl))))
 show _/\_
 rw [z2,z3,z4] at g5
 rw [z1,z2] at g3
 rw [z3] at g4
 rw [z1] at g2
 rw [z4]
 exact ⟨⟨_,g5,rfl⟩,h _ ⟨g5,g3,⟨_,_,g4⟩,⟨_,g1,rfl,rfl⟩,⟨_,g2,rfl,rfl⟩⟩ z5 fun c o x=>Ac _ (Ac _ (Ac _ (Ac _ (Ac _ x))))⟩
end
noncomputable def Itz (K:Af) (p q:Addr):It :=
  ⟨fun i H=>∃ xs ys x y,SqT K H p xs/\SqT K H q ys/\xs[i]?=some x/\ys[i]?=some y,
   fun i H v H'=>∃ T x y,v=.ref T/\H T=none/\H'=upd H T (.tup [x,y])/\∀ xs ys,SqT K H p xs->SqT K H q ys->xs[i]?=some x/\ys[i]?=some y,
   fun i H=>∃ xs ys,SqT K H p xs/\SqT K H q ys/\(xs.length<=i\/ys.length<=i)⟩
theorem aHD {P:At} {w:AV} {K:Af} {es:List Expr} {kk:Nat} {pos:Pos} (p q z ti to i j:Addr) (D:MR z ti to i j p q) :
  Turn P w K (.Tuple es kk pos) (Itz K p q) [z,ti,to,i,j] z (fun k h=>ZT h z ti to i j p q .none k) where
 mem:=by simp
 obj:=fun k h st b hb=>by
  obtain ⟨a1,a2,⟨u,v,a3⟩,⟨o4,a4,c4,d4⟩,⟨o5,a5,c5,d5⟩⟩:=st
  simp only [Aj,BF,or_false] at hb
  rcases hb with rfl | rfl | rfl | rfl | rfl
  ·exact ⟨_,a1,fun v e=>by cases e⟩
  ·exact ⟨_,a2,fun v e=>by cases e⟩
  ·exact ⟨_,a3,fun v e=>by cases e⟩
  ·exact ⟨_,a4,fun v e=>by rw [d4] at e; cases e⟩
  ·exact ⟨_,a5,fun v e=>by rw [d5] at e; cases e⟩
 keep:=fun k h h' st kp=>by
  obtain ⟨a1,a2,⟨u,v,a3⟩,a4,a5⟩:=st
  exact ⟨kp z (by simp) _ a1,kp ti (by simp) _ a2,⟨u,v,kp to (by simp) _ a3⟩,a4.at fun o e=>kp i (by simp) o e,a5.at fun o e=>kp j (by simp) o e⟩
 item:=by
  intro X hP hw hK hc k pins s σ H E I hf st hg
  subst hP hw hK
  obtain ⟨xs,ys,x,y,hp,hq,hx,hy⟩:=hg
  obtain ⟨us,ru,pu,_⟩:=I.tuple hp
  obtain ⟨vs,rv,pv,_⟩:=I.tuple hq
  obtain ⟨u,eu,r1⟩:=ru.get hx
  obtain ⟨v,ev,r2⟩:=rv.get hy
  have hT:s.TypeIs (.ref z) "zip":=⟨_,st.zz,rfl⟩
  unfold Dq
  refine Aa (CT (Bl (name:=CW "__next__") hT GQ (AN GQ hT LR (aFN D st (show s.heap.IsTuple p us.toArray from pu) (show s.heap.IsTuple q vs.toArray from pv) (by simpa using eu) (by simpa using ev) fun g Zg new sz kp=>Ab ?_) (Lk _))))
  refine ⟨_,rfl,?_⟩
  refine Hy Zg.zz fun g' z' b'=>?_
  have fz:=hf z (by simp)
  have fo:=hf to (by simp)
  have fi:=hf i (by simp)
  have fj:=hf j (by simp)
  have nT:H s.heap.objs.size=none:=I.hok.fresh (Ak _)
  have kp':∀ c o,c≠z->c≠to->c≠i->c≠j->s.heap.get? c=some o->g'.get? c=some o:=fun c o n1 n2 n3 n4 e=>b'.extBut _ _ n1 (kp c o n1 n2 n3 n4 e)
  have zne:s.heap.objs.size≠z:=Cd (Ap st.zz)
  have new':HZ g' s.heap.objs.size u v:=b'.extBut _ _ zne new
  have notch:∀ b,b ∉ [z,to,i,j]->b≠z/\b≠to/\b≠i/\b≠j:=fun b hb=>by simpa using hb
  have trk:∀ b o,H b=some o->b≠z/\b≠to/\b≠i/\b≠j:=fun b o e=>⟨zD e fz.1,zD e fo.1,zD e fi.1,zD e fj.1⟩
  have I1:Inv X pins σ (upd H s.heap.objs.size (.tup [x,y])) { s with heap:=g' }:=by
   refine I.step (g':=s.gens) (d':=s.drawn) (t':=s.toks) (ch:=[z,to,i,j]) (fun b hb=>?_) (fun b o _ _ hc e _=>?_) (fun b o _ _ hc e _=>?_) (fun b o hc e n=>?_) (fun b o hc e=>?_) (fun b xs e=>?_) (fun b o u e=>?_) (fun b ps e=>⟨#[],?_⟩) (fun m hm=>?_) (fun b o e=>?_) I.bare
   ·simp only [Aj,BF,or_false] at hb
    rcases hb with rfl | rfl | rfl | rfl
    ·exact ⟨fz.2.2.2.1,fz.2.1,fz.2.2.2.2.1,fz.2.2.2.2.2⟩
    ·exact ⟨fo.2.2.2.1,fo.2.1,fo.2.2.2.2.1,fo.2.2.2.2.2⟩
    ·exact ⟨fi.2.2.2.1,fi.2.1,fi.2.2.2.2.1,fi.2.2.2.2.2⟩
    ·exact ⟨fj.2.2.2.1,fj.2.1,fj.2.2.2.2.1,fj.2.2.2.2.2⟩
   ·obtain ⟨n1,n2,n3,n4⟩:=notch b hc
    exact kp' b o n1 n2 n3 n4 e
   ·obtain ⟨n1,n2,n3,n4⟩:=notch b hc
    exact ⟨o.slots,kp' b o n1 n2 n3 n4 e⟩
   ·rw [zH (AC (Ap e))]; exact n
   ·obtain ⟨n1,n2,n3,n4⟩:=notch b hc
    exact ⟨o,kp' b o n1 n2 n3 n4 e⟩
   ·rw [zH (zD e nT)]; exact e
   ·rw [zH (zD e nT)]; exact e
   ·rw [zH (zD e nT),e]; simp
   ·obtain ⟨o,es,ep,ho,r⟩:=hm
    exact ⟨o,es,ep,kp' _ o (BT fz.2.1) (BT fo.2.1) (BT fi.2.1) (BT fj.2.1) ho,r⟩
   ·by_cases hb:b=s.heap.objs.size
    ·subst hb
     rw [zC] at e
     cases e
     exact ⟨by show 2<=sizeLine; rw [Bb]; decide,[u,v],.cons r1 (.cons r2 .nil),⟨_,new',rfl,0,rfl⟩⟩
    ·rw [zH hb] at e
     refine (I.hok b o e).stay (fun c v' hcc r=>?_) (fun c r=>by rw [zH (zD r nT)]; exact r) fun c xs r=>by rw [zH (zD r nT)]; exact r
     rcases hcc with rfl | hcc
     ·obtain ⟨n1,n2,n3,n4⟩:=trk c o e
      exact kp' c v' n1 n2 n3 n4 r
     ·obtain ⟨n1,n2,n3,n4⟩:=trk c _ hcc
      exact kp' c v' n1 n2 n3 n4 r
  refine ⟨.ref s.heap.objs.size,_,I1,rfl,⟨_,x,y,rfl,nT,rfl,fun xs' ys' h1 h2=>?_⟩,?_,fun b hb=>?_⟩
  ·rw [I.tuple_inj h1 hp,I.tuple_inj h2 hq]
   exact ⟨hx,hy⟩
  ·obtain ⟨a1,a2,⟨c1,c2,a3⟩,a4,a5⟩:=Zg
   exact ⟨z',b'.extBut _ _ D.TIz a2,⟨c1,c2,b'.extBut _ _ D.TOz a3⟩,a4.extBut b'.extBut D.i1z,a5.extBut b'.extBut D.i2z⟩
  ·have hb':∃ o,s.heap.get? b=some o:=by
    obtain ⟨a1,a2,⟨c1,c2,a3⟩,⟨o4,a4,_⟩,⟨o5,a5,_⟩⟩:=st
    simp only [Aj,BF,or_false] at hb
    rcases hb with rfl | rfl | rfl | rfl | rfl
    ·exact ⟨_,a1⟩
    ·exact ⟨_,a2⟩
    ·exact ⟨_,a3⟩
    ·exact ⟨_,a4⟩
    ·exact ⟨_,a5⟩
   obtain ⟨o,e⟩:=hb'
   rw [zH (AC (Ap e))]
   exact (hf b hb).1
 done:=by
  intro X hP hw hK hc k pins s σ H E I hf st hg
  subst hP hw hK
  obtain ⟨xs,ys,hp,hq,hend⟩:=hg
  obtain ⟨us,ru,pu,_⟩:=I.tuple hp
  obtain ⟨vs,rv,pv,_⟩:=I.tuple hq
  have l1:=ru.length
  have l2:=rv.length
  have hT:s.TypeIs (.ref z) "zip":=⟨_,st.zz,rfl⟩
  unfold Dq
  refine Aa (CT (Bl (name:=CW "__next__") hT GQ (AN GQ hT LR (aFO (I.ok.hd hc) D st (show s.heap.IsTuple p us.toArray from pu) (show s.heap.IsTuple q vs.toArray from pv) ?_ fun g e kp ⟨o,ho,hcl⟩=>?_) (Lk _))))
  ·rcases hend with h | h
   ·exact .inl (by simp; lia)
   ·exact .inr (by simp; lia)
  ·refine Aa (DW (T:="StopIteration") (b:=true) ⟨o,ho,hcl⟩ Gh ?_)
   refine Ab ⟨rfl,?_⟩
   have fz:=hf z (by simp)
   have fo:=hf to (by simp)
   have fi:=hf i (by simp)
   have fj:=hf j (by simp)
   have notch:∀ b,b ∉ [z,to,i,j]->b≠z/\b≠to/\b≠i/\b≠j:=fun b hb=>by simpa using hb
   have trk:∀ b o,H b=some o->b≠z/\b≠to/\b≠i/\b≠j:=fun b o e=>⟨zD e fz.1,zD e fo.1,zD e fi.1,zD e fj.1⟩
   refine I.step (g':=s.gens) (d':=s.drawn) (t':=s.toks) (ch:=[z,to,i,j]) (fun b hb=>?_) (fun b o _ _ hc e _=>?_) (fun b o _ _ hc e _=>?_) (fun b o hc e n=>n) (fun b o hc e=>?_) (fun b xs e=>e) (fun b o u e=>e) (fun b ps e=>⟨#[],by rw [e]; simp⟩) (fun m hm=>?_) (fun b o e=>?_) I.bare
   ·simp only [Aj,BF,or_false] at hb
    rcases hb with rfl | rfl | rfl | rfl
    ·exact ⟨fz.2.2.2.1,fz.2.1,fz.2.2.2.2.1,fz.2.2.2.2.2⟩
    ·exact ⟨fo.2.2.2.1,fo.2.1,fo.2.2.2.2.1,fo.2.2.2.2.2⟩
    ·exact ⟨fi.2.2.2.1,fi.2.1,fi.2.2.2.2.1,fi.2.2.2.2.2⟩
    ·exact ⟨fj.2.2.2.1,fj.2.1,fj.2.2.2.2.1,fj.2.2.2.2.2⟩
   ·obtain ⟨n1,n2,n3,n4⟩:=notch b hc
    exact kp b o n1 n2 n3 n4 e
   ·obtain ⟨n1,n2,n3,n4⟩:=notch b hc
    exact ⟨o.slots,kp b o n1 n2 n3 n4 e⟩
   ·obtain ⟨n1,n2,n3,n4⟩:=notch b hc
    exact ⟨o,kp b o n1 n2 n3 n4 e⟩
   ·obtain ⟨o,es,ep,ho,r⟩:=hm
    exact ⟨o,es,ep,kp _ o (BT fz.2.1) (BT fo.2.1) (BT fi.2.1) (BT fj.2.1) ho,r⟩
   ·refine (I.hok b o e).stay (fun c v' hcc r=>?_) (fun _ r=>r) fun _ _ r=>r
    rcases hcc with rfl | hcc
    ·obtain ⟨n1,n2,n3,n4⟩:=trk c o e
     exact kp c v' n1 n2 n3 n4 r
    ·obtain ⟨n1,n2,n3,n4⟩:=trk c _ hcc
     exact kp c v' n1 n2 n3 n4 r
 self:=fun _ _ _ _ _ st h=>Gw st.zz h
theorem aI7:BW "zip"=some (.type "zip"):=by decide +kernel
section
variable {X:Cx} {es:List Expr} {kk:Nat} {tpos:Pos}
noncomputable def iZip (K:Af) (ta:TA):TI:=fun σ H R=>ta σ H fun vs H1=>∃ p q,vs=[.ref p,.ref q]/\(∃ xs,SqT K H1 p xs)/\(∃ ys,SqT K H1 q ys)/\R (Itz K p q) H1
theorem aKK {a b:Expr} {ta:TA} {p pos:Pos} (hm:X.mg "zip"=none) (ha:PA X [a,b] ta) (hg:Gl X "zip":=by rfl) (hs:AW [a,b] X.env=[(false,eval a X.env),(false,eval b X.env)]:=by rfl) (hs2:AW [b] X.env=[(false,eval b X.env)]:=by rfl) :
  PI X (.Tuple es kk tpos) (.Call (.Name "zip" p) [a,b] [] pos) (iZip X.K ta):=by
 intro pins s σ H R I h
 refine Call_ (qT I hg hm aI7 (Cz (thn (ha pos pins s σ H _ I h) fun us s1 ⟨vs,H1,I1,r1,q1⟩=>?_) (by rw [hs,hs2]) (by rw [hs2]; rfl)))
 obtain ⟨x,y,e,⟨xs,hx⟩,⟨ys,hy⟩,q⟩:=q1
 subst e
 obtain ⟨u,v,rfl,ru,rv⟩:=aF1 r1
 cases ru; cases rv
 obtain ⟨us,_,px,_⟩:=I1.tuple hx
 obtain ⟨vs,_,py,_⟩:=I1.tuple hy
 have lx:x < s1.heap.objs.size:=px.lt
 have ly:y < s1.heap.objs.size:=py.lt
 refine aFP (show s1.heap.IsTuple x us.toArray from px) (show s1.heap.IsTuple y vs.toArray from py) fun g Zg sz kp=>?_
 refine Gw Zg.zz ?_
 refine ⟨_,_,_,_,H1,rfl,I1.kept (t':=s1.toks) kp,aHD x y _ _ _ _ _ (zipApart_new lx ly),Zg,fun b hb=>?_,q⟩
 have hge:s1.heap.objs.size<=b:=by
  simp only [Aj,BF,or_false] at hb
  rcases hb with rfl | rfl | rfl | rfl | rfl <;> lia
 exact I1.fpOk hge (I1.hok.fresh hge)
theorem aHE {K:Af} {p q:Addr} {xs ys:List V} {H1:Hp} {D:Addr} {σ0:St} {g:TG} {tt:TT} {te:TE} {R:Hp->Prop}
  (Pv:Nat->List V->St->Hp->Prop) (hl:∀ i zs σ H2,Pv i zs σ H2->SqT K H2 p xs/\SqT K H2 q ys) (hlen:xs.length=ys.length) (h0:Pv 0 [] σ0 (upd H1 D (.lst [])))
  (hs:∀ i T x y zs σ H2,xs[i]?=some x->ys[i]?=some y->zs.length<=i->Pv i zs σ H2->H2 D=some (.lst zs)->H2 T=none->g (.ref T) σ (upd H2 T (.tup [x,y])) fun σ3 H3=>tt σ3 H3 fun b H4=>if b=true then te σ3 H4 fun y H5=>∃ zs,H5 D=some (.lst zs)/\zs.length < sizeLine/\qz Pv D i σ3 (upd H5 D (.lst (zs++[y]))) else qz Pv D i σ3 H4)
  (hd:∀ zs σ H2,Pv xs.length zs σ H2->H2 D=some (.lst zs)->R H2) :
  ∃ W:Nat->Nat->St->Hp->Prop,(∃ m,W 0 m σ0 (upd H1 D (.lst [])))/\∀ i m σ2 H2,W i m σ2 H2 ->
  ((Itz K p q).stop i H2/\R H2)\/((Itz K p q).go i H2/\∃ N:St->Hp->Prop,(∀ σ' H',N σ' H'->∃ m',m' < m/\W (i + 1) m' σ' H')/\∀ x H',(Itz K p q).yld i H2 x H'->g x σ2 H' fun σ3 H3=>tt σ3 H3 fun b H4 =>
   if b=true then te σ3 H4 fun y H5=>∃ xs,H5 D=some (.lst xs)/\xs.length < sizeLine/\N σ3 (upd H5 D (.lst (xs++[y]))) else N σ3 H4):=by
 refine ⟨fun i m σ H'=>m=xs.length - i/\i<=xs.length/\∃ zs,zs.length<=i/\Pv i zs σ H'/\H' D=some (.lst zs),⟨xs.length,by simp,AL _,[],Ak _,h0,zC⟩,?_⟩
 rintro i m σ2 H2 ⟨rfl,hi,zs,hy,pv,e⟩
 obtain ⟨q1,q2⟩:=hl i zs σ2 H2 pv
 by_cases hlt:i < xs.length
 ·refine .inr ⟨⟨xs,ys,xs[i],ys[i],q1,q2,by simp [hlt],by simp [hlen ▸ hlt]⟩,qz Pv D i,fun σ' H' ⟨zs',l',p',e'⟩=>⟨xs.length - (i + 1),by lia,rfl,hlt,zs',l',p',e'⟩,fun v H' y=>?_⟩
  obtain ⟨T,x,y,rfl,hT,rfl,hxy⟩:=y
  obtain ⟨e1,e2⟩:=hxy xs ys q1 q2
  exact hs i T x y zs σ2 H2 e1 e2 hy pv e hT
 ·have ei:i=xs.length:=by lia
  subst ei
  exact .inl ⟨⟨xs,ys,q1,q2,.inl (Ak _)⟩,hd zs σ2 H2 pv e⟩
end
end L2
namespace L2
open PySem PySem.Spec PyProof.Rows PySem.Builtin.Str
section
variable {X:Cx}
end
section
variable {prog:At} {w:AV} {A:AY} {E:Value->Ad->Prop} {s:Ad}
end
section
variable {X:Cx} {pos p2:Pos}
end
end L2
namespace L2
open PySem PySem.Spec PyProof.Rows
section
variable {X:Cx}
end
section
variable {prog:At} {w:AV} {A:AY} {E:Value->Ad->Prop} {s:Ad}
end
section
variable {X:Cx} {es:List Expr} {kk:Nat} {tpos:Pos}
end
end L2
namespace HT
open PySem PySem.Spec PyProof.Rows
section
variable {prog:At} {w:AV} {A:AY} {E:Value->Ad->Prop} {s:Ad}
end
end HT
namespace L2
open PySem PySem.Spec PyProof.Rows
variable {X:Cx}
end L2
namespace L2
open PySem PySem.Spec PyProof.Rows
section
variable {O:KeyOrd}
noncomputable def Up (f:Nat->O.α) (n:Nat):Prop:=∀ i j,i<=j->j < n->O.kle (f i) (f j)
noncomputable def Dn (f:Nat->O.α) (n:Nat):Prop:=∀ i j,i<=j->j < n->O.kle (f j) (f i)
theorem Up.one (f:Nat->O.α):Up f 1:=fun i j a b=>by
 have e:i=j:=by lia
 rw [e]; exact Df _
theorem Dn.one (f:Nat->O.α):Dn f 1:=fun i j a b=>by
 have e:i=j:=by lia
 rw [e]; exact Df _
theorem Up.snoc {f:Nat->O.α} {n:Nat} (u:Up f n) (h:O.kle (f (n - 1)) (f n)):Up f (n + 1):=fun i j a b=>by
 rcases Eu j n with c | c
 ·exact u i j a c
 have ej:j=n:=by lia
 rw [ej]
 rcases Eu i n with c2 | c2
 ·exact Gx (u i (n - 1) (by lia) (by lia)) h
 ·have ei:i=n:=by lia
  rw [ei]; exact Df _
theorem Dn.snoc {f:Nat->O.α} {n:Nat} (u:Dn f n) (h:O.kle (f n) (f (n - 1))):Dn f (n + 1):=fun i j a b=>by
 rcases Eu j n with c | c
 ·exact u i j a c
 have ej:j=n:=by lia
 rw [ej]
 rcases Eu i n with c2 | c2
 ·exact Gx h (u i (n - 1) (by lia) (by lia))
 ·have ei:i=n:=by lia
  rw [ei]; exact Df _
theorem Dn.congr {f g:Nat->O.α} {n:Nat} (u:Dn f n) (h:∀ i,g i=f i):Dn g n:=fun i j a b=>by rw [h,h]; exact u i j a b
end
section
variable {O:KeyOrd} (κ:Ia->O.α) (d:O.α)
noncomputable def fk (xs:Array Ia) (i:Nat):O.α:=match xs[i]? with
 | some p=>κ p
 | none=>d
theorem aFQ {xs ys:Array Ia} {i j:Nat} (h:xs[i]?=ys[j]?):fk κ d xs i=fk κ d ys j:=by unfold fk; rw [h]
theorem aCs {xs:Array Ia} {i j:Nat} (hj:j<=xs.size) (k:Nat):fk κ d (mirror xs i j ((j - i) / 2)) k=if i<=k/\k < j then fk κ d xs (i + j - 1 - k) else fk κ d xs k:=by
 have e:=getElem?_mirror_all (i:=i) hj k
 split at e
 ·rename_i c; rw [if_pos c]; exact aFQ κ d e
 ·rename_i c; rw [if_neg c]; exact aFQ κ d e
theorem aCt {xs:Array Ia} {i j:Nat} (hj:j<=xs.size) (h:∀ k,i<=k->k < j->fk κ d xs k=fk κ d xs (j - 1)) (k:Nat):fk κ d (mirror xs i j ((j - i) / 2)) k=fk κ d xs k:=by
 rw [aCs κ d hj]
 split
 ·rename_i c
  rw [h _ (by lia) (by lia),<- h k c.1 c.2]
 ·rfl
theorem aFR {xs:Array Ia} {a b:Nat} (ha:a < xs.size) (hb:b<=a) (k:Nat):fk κ d (bubble xs a b) k=if k=a - b then fk κ d xs a else if a - b < k/\k<=a then fk κ d xs (k - 1) else fk κ d xs k:=by
 have e:=getElem?_bubble ha b hb k
 split at e
 ·rename_i c; rw [if_pos c]; exact aFQ κ d e
 ·rename_i c
  rw [if_neg c]
  split at e
  ·rename_i c2; rw [if_pos c2]; exact aFQ κ d e
  ·rename_i c2; rw [if_neg c2]; exact aFQ κ d e
end
structure Srt (M:Ky) (A:AY) (E:Value->Ad->Prop) (s:Ad) {O:KeyOrd} (κ:Ia->O.α) (d:O.α) (n:Nat) (Bs:Fi->Prop):Prop where
 lt:∀ {st:Fi} {i j:Nat} {Q:Option Bool->Fi->Prop},Bs st->i < n->j < n->Q (some (O.blt (fk κ d (BL st) i) (fk κ d (BL st) j))) st->wpS M A E s (ltAt' i j) Q st
 put:∀ {st:Fi} {xs:Array Ia},Bs st->xs.Perm (BL st)->Bs (setArr st xs)
 sz:∀ {st:Fi},Bs st->(BL st).size=n
section
variable {prog:At} {w:AV} {A:AY} {E:Value->Ad->Prop} {s:Ad} {O:KeyOrd} {κ:Ia->O.α} {d:O.α} {n:Nat} {Bs:Fi->Prop}
theorem aFS (S:Srt (AB prog w) A E s κ d n Bs) {st:Fi} (hb:Bs st) {a m:Nat} (h1:1<=a) (ham:a<=m) (hmn:m<=n) (up:Up (fk κ d (BL st)) a) {Q:AscSt->Fi->Prop}
  (q:∀ k,a<=k->k<=m->Up (fk κ d (BL st)) k->(k=m\/O.klt (fk κ d (BL st) k) (fk κ d (BL st) (k - 1)))->Q (none,k) st):wpS (AB prog w) A E s (ascLoop a m) Q st:=by
 unfold ascLoop
 refine Gm (fun x c st'=>st'=st/\c=(none,x)/\Up (fk κ d (BL st)) x) (fun x c st' hx hm hI=>?_) (fun c st' hI=>?_) ⟨rfl,rfl,up⟩
 ·obtain ⟨e1,e2,u⟩:=hI
  subst e1 e2
  refine Cj (S.lt hb (show x < n by lia) (show x - 1 < n by lia) ?_)
  dsimp only
  cases e:O.blt (fk κ d (BL st') x) (fk κ d (BL st') (x - 1)) with
  | true=>rw [if_pos rfl]; exact Dt (q x hx (by lia) u (.inr e))
  | false=>rw [if_neg Av]; exact Dt ⟨rfl,rfl,u.snoc e⟩
 ·obtain ⟨e1,e2,u⟩:=hI
  subst e1 e2
  rw [LS ham] at u ⊢
  exact q m ham (Ak m) u (.inl rfl)
theorem aDi (S:Srt (AB prog w) A E s κ d n Bs) {st:Fi} (hb:Bs st) {a m:Nat} (h1:1<=a) (ham:a<=m) (hmn:m<=n) (dn:Dn (fk κ d (BL st)) a) {Q:Option Nat->Fi->Prop}
  (q:∀ k st',Bs st'->1<=k->k<=m->Up (fk κ d (BL st')) k->Q (some k) st'):wpS (AB prog w) A E s (tail3 a m) Q st:=by
 have z:a<=(BL st).size:=by rw [S.sz hb]; lia
 unfold tail3
 refine Cj (Kp ?_)
 have hb2:=S.put hb (Kq (BL st) 0 a ((a - 0) / 2))
 have u2:Up (fk κ d (mirror (BL st) 0 a ((a - 0) / 2))) a:=fun i j c1 c2=>by
  rw [aCs κ d z,aCs κ d z,if_pos ⟨AL _,by lia⟩,if_pos ⟨AL _,c2⟩]
  exact dn _ _ (by lia) (by lia)
 exact Cj (aFS S hb2 h1 ham hmn u2 fun k k1 k2 u _=>Dt (q k _ hb2 (by lia) k2 u))
theorem aHF (S:Srt (AB prog w) A E s κ d n Bs) {st:Fi} (hb:Bs st) {a m:Nat} (h1:1<=a) (ham:a<=m) (hmn:m<=n) (dn:Dn (fk κ d (BL st)) a) {Q:DescSt->Fi->Prop}
  (q:∀ k e st',Bs st'->a<=k->k<=m->Dn (fk κ d (BL st')) k->e + 1<=k->(∀ i,k - (e + 1)<=i->i < k->fk κ d (BL st') i=fk κ d (BL st') (k - 1))->Q (none,k,e) st'):wpS (AB prog w) A E s (descLoop a m) Q st:=by
 unfold descLoop
 have one:∀ (xs:Array Ia) (x:Nat),1<=x->∀ i,x - (0 + 1)<=i->i < x->fk κ d xs i=fk κ d xs (x - 1):=fun xs x hx i c1 c2=>by rw [show i=x - 1 by lia]
 refine Gm (fun x c st'=>∃ e,c=(none,x,e)/\Bs st'/\Dn (fk κ d (BL st')) x/\e + 1<=x/\∀ i,x - (e + 1)<=i->i < x->fk κ d (BL st') i=fk κ d (BL st') (x - 1)) (fun x c st' hx hm hI=>?_) (fun c st' hI=>?_) ⟨0,rfl,hb,dn,h1,one _ a h1⟩
 ·obtain ⟨e,rfl,b,u,le,fl⟩:=hI
  have z:x<=(BL st').size:=by rw [S.sz b]; lia
  refine Cj (S.lt b (show x < n by lia) (show x - 1 < n by lia) ?_)
  dsimp only
  cases e1:O.blt (fk κ d (BL st') x) (fk κ d (BL st') (x - 1)) with
  | true =>
   rw [if_pos rfl]
   have u1:Dn (fk κ d (BL st')) (x + 1):=u.snoc (Ga e1)
   by_cases c:e > 0
   ·rw [if_pos c]
    exact Cj (Kp (Dt ⟨0,rfl,S.put b (Kq _ _ _ _),u1.congr (aCt κ d z fl),by lia,one _ (x + 1) (by lia)⟩))
   ·rw [if_neg c]
    exact Dt ⟨0,rfl,b,u1,by lia,one _ (x + 1) (by lia)⟩
  | false =>
   rw [if_neg Av]
   refine Cj (S.lt b (show x - 1 < n by lia) (show x < n by lia) ?_)
   dsimp only
   cases e2:O.blt (fk κ d (BL st') (x - 1)) (fk κ d (BL st') x) with
   | true=>rw [if_pos rfl]; exact Dt (q x e st' b hx (by lia) u le fl)
   | false =>
    rw [if_neg Av]
    have same:fk κ d (BL st') x=fk κ d (BL st') (x - 1):=Kr e2 e1
    refine Dt ⟨e + 1,rfl,b,u.snoc (by rw [same]; exact Df _),by lia,fun i c1 c2=>?_⟩
    rw [KP]
    rcases Eu i x with c3 | c3
    ·rw [same]; exact fl i (by lia) c3
    ·rw [show i=x by lia]
 ·obtain ⟨e,rfl,b,u,le,fl⟩:=hI
  rw [LS ham] at u le fl ⊢
  exact q m e st' b ham (Ak m) u le fl
theorem aA4 (S:Srt (AB prog w) A E s κ d n Bs) {st:Fi} (hb:Bs st) {a m:Nat} (ham:a + 1<=m) (hmn:m<=n) (dn:Dn (fk κ d (BL st)) (a + 1)) {Q:Option Nat->Fi->Prop}
  (q:∀ k st',Bs st'->1<=k->k<=m->Up (fk κ d (BL st')) k->Q (some k) st'):wpS (AB prog w) A E s (descPart a m) Q st:=by
 unfold descPart
 refine Cj (wpS_lift (CK ⟨rfl,?_⟩))
 refine Cj (aHF S hb (by lia) ham hmn dn fun k e st' b k1 k2 u le fl=>?_)
 have z:k<=(BL st').size:=by rw [S.sz b]; lia
 dsimp only
 by_cases c:e > 0
 ·rw [if_pos c]
  exact Cj (Kp (aDi S (S.put b (Kq _ _ _ _)) (by lia) k2 hmn (u.congr (aCt κ d z fl)) q))
 ·rw [if_neg c]
  exact aDi S b (by lia) k2 hmn u q
theorem aFT (S:Srt (AB prog w) A E s κ d n Bs) {st:Fi} (hb:Bs st) {m:Nat} (h1:1<=m) (hmn:m<=n) {Q:Option Nat->Fi->Prop}
  (q:∀ k st',Bs st'->1<=k->k<=m->Up (fk κ d (BL st')) k->Q (some k) st'):wpS (AB prog w) A E s (countRun' 0 m) Q st:=by
 rw [countRun0_eq]
 refine Cj (aFS S hb (Ak 1) h1 hmn (Up.one _) fun k k1 k2 u ends=>?_)
 have z:k<=(BL st).size:=by rw [S.sz hb]; lia
 dsimp only
 by_cases c:k=m
 ·rw [if_pos (beq_iff_eq.mpr c)]
  exact Dt (q k st hb k1 k2 u)
 rw [if_neg (fun z=>c (beq_iff_eq.mp z))]
 have fall:=ends.resolve_left c
 by_cases c1:k > 1
 ·rw [if_pos c1]
  refine Cj (S.lt hb (show 0 < n by lia) (show k - 1 < n by lia) ?_)
  dsimp only
  cases e:O.blt (fk κ d (BL st) 0) (fk κ d (BL st) (k - 1)) with
  | true=>rw [if_pos rfl]; exact Dt (q k st hb k1 k2 u)
  | false =>
   rw [if_neg Av]
   have flat:∀ i,0<=i->i < k->fk κ d (BL st) i=fk κ d (BL st) (k - 1):=fun i _ ci =>
    Kr (u i (k - 1) (by lia) (by lia)) (Gx e (u 0 i (AL _) ci))
   have dn:Dn (fk κ d (BL st)) (k + 1):=by
    refine Dn.snoc (fun i j a b=>?_) (Ga fall)
    rw [flat i (AL _) (by lia),flat j (AL _) b]
    exact Df _
   exact Cj (Kp (aA4 S (S.put hb (Kq _ _ _ _)) (by lia) hmn (dn.congr (aCt κ d z flat)) q))
 ·rw [if_neg c1]
  have e1:k=1:=by lia
  subst e1
  exact aA4 S hb (by lia) hmn (Dn.snoc (Dn.one _) (Ga fall)) q
theorem aER (S:Srt (AB prog w) A E s κ d n Bs) {st:Fi} (hb:Bs st) {a:Nat} (han:a<=n) (up:Up (fk κ d (BL st)) a) {Q:Bool->Fi->Prop}
  (q:∀ st',Bs st'->Up (fk κ d (BL st')) n->Q true st'):wpS (AB prog w) A E s (binarySort' 0 n a) Q st:=by
 rw [binarySort'_eq]
 simp only [LF]
 refine Cj (MS (Gm (fun x c st'=>c=(none,())/\Bs st'/\Up (fk κ d (BL st')) (min x n)) (Q:=fun c st'=>c=(none,())/\Bs st'/\Up (fk κ d (BL st')) n) (fun x c st' hx hxn hI=>?_) (fun c st' hI=>?_) ⟨rfl,hb,?_⟩) ?_)
 ·obtain ⟨rfl,b,u⟩:=hI
  rw [FN (by lia)] at u
  refine Cj (MS (Gm (fun y c st2=>st2=st'/\∃ l r,c=(none,l,r)/\l<=r/\r<=x/\r - l<=x - y/\(∀ i,i < l->O.kle (fk κ d (BL st') i) (fk κ d (BL st') x))/\∀ i,r<=i->i < x->O.klt (fk κ d (BL st') x) (fk κ d (BL st') i))
   (Q:=fun c st2=>st2=st'/\∃ l r,c=(none,l,r)/\l<=x/\(∀ i,i < l->O.kle (fk κ d (BL st') i) (fk κ d (BL st') x))/\∀ i,l<=i->i < x->O.klt (fk κ d (BL st') x) (fk κ d (BL st') i))
   (fun y c st2 _ hy hJ=>?_) (fun c st2 hJ=>?_) ⟨rfl,0,x,rfl,AL _,Ak _,Ak _,(fun i hi=>absurd hi (Jn i)),fun i c1 c2=>absurd c2 (Nat.not_lt.mpr c1)⟩) ?_)
  ·obtain ⟨rfl,l,r,rfl,lr,rx,dist,lo,hi⟩:=hJ
   dsimp only
   by_cases c:l >= r
   ·rw [if_pos c]
    exact Dt ⟨rfl,l,r,rfl,by lia,lo,fun i c1 c2=>hi i (by lia) c2⟩
   rw [if_neg c]
   refine Cj (S.lt b (show x < n by lia) (show (l + r) / 2 < n by lia) ?_)
   dsimp only
   cases e:O.blt (fk κ d (BL st2) x) (fk κ d (BL st2) ((l + r) / 2)) with
   | true =>
    rw [if_pos rfl]
    exact Dt ⟨rfl,l,(l + r) / 2,rfl,by lia,by lia,by lia,lo,fun i c1 c2=>KeyOrd.klt_of_klt_of_kle e (u _ _ c1 c2)⟩
   | false =>
    rw [if_neg Av]
    exact Dt ⟨rfl,(l + r) / 2 + 1,r,rfl,by lia,rx,by lia,fun i ci=>Gx (u i ((l + r) / 2) (by lia) (by lia)) e,hi⟩
  ·obtain ⟨rfl,l,r,rfl,lr,rx,dist,lo,hi⟩:=hJ
   exact ⟨rfl,l,r,rfl,by lia,lo,fun i c1 c2=>hi i (by lia) c2⟩
  ·rintro c st2 ⟨rfl,l,r,rfl,lx,lo,hi⟩
   have z:x < (BL st2).size:=by rw [S.sz b]; exact hxn
   show wpS _ _ _ _ (moveDown' x l >>= fun _=>pure (DR (none,()))) _ _
   rw [moveDown'_eq]
   refine Cj (MK (Dt ⟨rfl,S.put b (bubble_perm _ _ _),?_⟩))
   rw [FN (by lia)]
   intro i j c1 c2
   show O.kle (fk κ d (bubble (BL st2) x (x - l)) i) (fk κ d (bubble (BL st2) x (x - l)) j)
   rw [aFR κ d z (Nat.sub_le _ _),aFR κ d z (Nat.sub_le _ _),show x - (x - l)=l by lia]
   by_cases a1:i=l
   ·rw [if_pos a1]
    by_cases a2:j=l
    ·rw [if_pos a2]; exact Df _
    ·rw [if_neg a2,if_pos ⟨by lia,by lia⟩]; exact Ga (hi _ (by lia) (by lia))
   ·rw [if_neg a1]
    by_cases a3:l < i/\i<=x
    ·rw [if_pos a3,if_neg (by lia),if_pos ⟨by lia,by lia⟩]
     exact u _ _ (by lia) (by lia)
    ·rw [if_neg a3]
     by_cases a2:j=l
     ·rw [if_pos a2]; exact lo i (by lia)
     ·rw [if_neg a2]
      by_cases a4:l < j/\j<=x
      ·rw [if_pos a4]; exact u _ _ (by lia) (by lia)
      ·rw [if_neg a4]; exact u _ _ c1 (by lia)
 ·obtain ⟨rfl,b,u⟩:=hI
  rw [show min (max (max a 1) n) n=n by lia] at u
  exact ⟨rfl,b,u⟩
 ·intro i j c1 c2
  rcases Eu j a with c | c
  ·exact up i j c1 c
  ·have e:i=j:=by lia
   rw [e]; exact Df _
 ·rintro c st' ⟨rfl,b,u⟩
  exact Dt (q st' b u)
end
structure TB (kd:SortKind) (a0:Array Ia) (st:Fi):Prop where
 kind:Hk st=kd
 perm:(BL st).Perm a0
 pend:Fj st=#[]
 fail:GH st=none
section
variable {prog:At} {w:AV} {A:AY} {E:Value->Ad->Prop} {s:Ad} {O:KeyOrd} {κ:Ia->O.α} {d:O.α} {kd:SortKind} {a0:Array Ia}
theorem aDj (S:Srt (AB prog w) A E s κ d a0.size (TB kd a0)) (h2:2<=a0.size) (h64:a0.size < 64) {st:Fi} (hb:TB kd a0 st) {Q:Unit->Fi->Prop}
  (q:∀ st',(BL st').Perm a0->GH st'=none->Up (fk κ d (BL st')) a0.size->Q () st'):wpS (AB prog w) A E s sortRuns' Q st:=by
 have zst:=S.sz hb
 have mr:minRun' a0.size a0.size 0=a0.size:=by
  cases e:a0.size with
  | zero=>lia
  | succ k =>
   rw [minRun'_succ,if_pos (by lia)]
 rw [sortRuns'_eq]
 refine Cj (Ml ?_)
 dsimp only
 rw [zst,mr]
 have laid:∀ st':Fi,TB kd a0 st'->Up (fk κ d (BL st')) a0.size->(BL (Ll st' ((Fj st').push (0,a0.size,0)))).Perm a0/\GH (Ll st' ((Fj st').push (0,a0.size,0)))=none/\Fj (Ll st' ((Fj st').push (0,a0.size,0)))=#[(0,a0.size,0)]/\Up (fk κ d (BL (Ll st' ((Fj st').push (0,a0.size,0))))) a0.size:=fun st' b u =>
  ⟨b.perm,b.fail,(by show (Fj st').push (0,a0.size,0)=_; rw [b.pend]; rfl),u⟩
 refine Cj (MS (Gm (fun x c st'=>(x=0/\c=(none,0)/\TB kd a0 st')\/(c=(none,a0.size)/\(BL st').Perm a0/\GH st'=none/\Fj st'=#[(0,a0.size,0)]/\Up (fk κ d (BL st')) a0.size))
  (Q:=fun c st'=>c=(none,a0.size)/\(BL st').Perm a0/\GH st'=none/\Fj st'=#[(0,a0.size,0)]/\Up (fk κ d (BL st')) a0.size) (fun x c st' _ hx hI=>?_) (fun c st' hI=>?_) (.inl ⟨rfl,rfl,hb⟩)) ?_)
 ·rcases hI with ⟨rfl,rfl,b⟩ | ⟨rfl,r⟩
  ·dsimp only
   rw [if_neg (by lia)]
   simp only [LG,LC,LF]
   refine Cj (aFT S b (by lia) (Ak _) fun k st2 b2 k1 k2 u=>?_)
   dsimp only
   by_cases c:k < a0.size
   ·rw [if_pos c]
    refine Cj (wpS_lift (CK ⟨rfl,?_⟩))
    refine Cj (aER S b2 k2 u fun st3 b3 u3=>?_)
    simp only [MT,BN,if_false]
    refine Cj (Ml ?_)
    rw [show (Fj st3).back?=none by rw [b3.pend]; rfl]
    dsimp only
    exact Cj (MK (Dt (.inr ⟨rfl,laid st3 b3 u3⟩)))
   ·rw [if_neg c]
    have ek:k=a0.size:=by lia
    subst ek
    refine Cj (Ml ?_)
    rw [show (Fj st2).back?=none by rw [b2.pend]; rfl]
    dsimp only
    exact Cj (MK (Dt (.inr ⟨rfl,laid st2 b2 u⟩)))
  ·dsimp only
   rw [if_pos (Ak _)]
   exact Dt ⟨rfl,r⟩
 ·rcases hI with ⟨h,_⟩ | h
  ·exact absurd h (by lia)
  ·exact h
 ·rintro c st' ⟨rfl,r1,r2,r3,r4⟩
  dsimp only
  refine Cj (MS (Gm (fun _ c st2=>st2=st'/\c=(none,())) (Q:=fun c st2=>st2=st'/\c=(none,())) (fun x c st2 _ _ hJ=>?_) (fun c st2 hJ=>hJ) ⟨rfl,rfl⟩) ?_)
  ·obtain ⟨rfl,rfl⟩:=hJ
   refine Cj (Ml ?_)
   rw [if_pos (by rw [r3]; exact Ak 1)]
   exact Dt ⟨rfl,rfl⟩
  ·rintro c st2 ⟨rfl,rfl⟩
   exact Dt (q _ r1 r2 r4)
end
noncomputable def lx:List Int->List Int->Bool
 | [],[]=>false
 | [],_ :: _=>true
 | _ :: _,[]=>false
 | a :: x,b :: y=>if a=b then lx x y else decide (a < b)
theorem qY (a b:Int) (x y:List Int):lx (a :: x) (b :: y)=if a=b then lx x y else decide (a < b):=by rw [lx]
theorem qZ:∀ x,lx x x=false
 | []=>rfl
 | a :: x=>by rw [qY,if_pos rfl]; exact qZ x
theorem aAB:∀ x y,lx x y=false->lx y x=false->x=y
 | [],[],_,_=>rfl
 | [],_ :: _,h,_=>by cases h
 | _ :: _,[],_,h=>by cases h
 | a :: x,b :: y,h1,h2=>by
  rw [qY] at h1 h2
  by_cases e:a=b
  ·subst e
   rw [if_pos rfl] at h1 h2
   rw [aAB x y h1 h2]
  ·rw [if_neg e] at h1
   rw [if_neg (BT e)] at h2
   have:=of_decide_eq_false h1
   have:=of_decide_eq_false h2
   lia
theorem aAC:∀ x y z,lx x y=true->lx y z=true->lx x z=true
 | [],[],_,h,_=>by cases h
 | [],_ :: _,[],_,h=>by cases h
 | [],_ :: _,_ :: _,_,_=>rfl
 | _ :: _,[],_,h,_=>by cases h
 | _ :: _,_ :: _,[],_,h=>by cases h
 | a :: x,b :: y,c :: z,h1,h2=>by
  rw [qY] at h1 h2 ⊢
  by_cases e1:a=b
  ·subst e1
   rw [if_pos rfl] at h1
   by_cases e2:a=c
   ·subst e2
    rw [if_pos rfl] at h2 ⊢
    exact aAC x y z h1 h2
   ·rw [if_neg e2] at h2 ⊢; exact h2
  ·rw [if_neg e1] at h1
   have k1:=of_decide_eq_true h1
   by_cases e2:b=c
   ·subst e2
    rw [if_neg e1]; exact h1
   ·rw [if_neg e2] at h2
    have k2:=of_decide_eq_true h2
    rw [if_neg (by lia)]
    exact decide_eq_true (by lia)
theorem aFU:∀ x y z,lx x z=true->lx x y=true\/lx y z=true
 | [],[],_,h=>.inr h
 | [],_ :: _,_,_=>.inl rfl
 | _ :: _,_,[],h=>by cases h
 | _ :: _,[],_ :: _,_=>.inr rfl
 | a :: x,b :: y,c :: z,h=>by
  rw [qY] at h ⊢
  rw [qY]
  by_cases e1:a=b
  ·subst e1
   rw [if_pos rfl]
   by_cases e2:a=c
   ·subst e2
    rw [if_pos rfl] at h ⊢
    exact aFU x y z h
   ·rw [if_neg e2] at h ⊢; exact .inr h
  ·rw [if_neg e1]
   by_cases e2:b=c
   ·subst e2
    rw [if_neg e1] at h; exact .inl h
   ·rw [if_neg e2]
    by_cases e3:a < b
    ·exact .inl (decide_eq_true e3)
    ·refine .inr (decide_eq_true ?_)
     by_cases e4:a=c
     ·subst e4; lia
     ·rw [if_neg e4] at h
      have:=of_decide_eq_true h
      lia
noncomputable def lxO:KeyOrd:=⟨List Int,lx,qZ,aAC,fun a b c h=>aFU a b c h,aAB⟩
noncomputable abbrev jp (b:Bool):SortKind:=(sortPriv% PySem.Builtin.KeyKind.tuples) b
noncomputable def TupI (h:Heap) (v:Value) (ns:List Int):Prop:=∃ (a:Addr) (us:List Value),v=.ref a/\h.IsTuple a us.toArray/\EG us ns
theorem aFV (b:Bool) (x y:Value):keyLt' (jp b) x y=(do
  let xs <- Dm x
  let ys <- Dm y
  for ((p,q),i) in (xs.toList.zip ys.toList).zipIdx do
   if !(<- eqBool p q) then return <- oneLt' (b && i == 0) p q
  return xs.size < ys.size):=rfl
section
variable {prog:At} {w:AV} {A:AY} {E:Value->Ad->Prop} {s:Ad}
theorem aIq (b:Bool) {m n:Int} {t u:Tok} {Q:Bool->Ad->Prop} (h:Q (decide (m < n)) s):Ar (AB prog w) A (oneLt' b (.int m t) (.int n u)) Q E s:=by
 cases b with
 | true=>exact oneLt_int h
 | false =>
  rw [oneLt'_eq]
  simp only [BN,if_false]
  exact Aa (HT.rcLt_int A s m t n u prog w E _ (DI h))
noncomputable def lexO:List Int->List Int->Option Bool
 | a :: x,b :: y=>if a=b then lexO x y else some (decide (a < b))
 | _,_=>none
theorem aC7 (a b:Int) (x y:List Int):lexO (a :: x) (b :: y)=if a=b then lexO x y else some (decide (a < b)):=by rw [lexO]
theorem aFW:∀ x y,lx x y=(lexO x y).getD (decide (x.length < y.length))
 | [],[]=>rfl
 | [],b :: y=>by
  have e:lexO [] (b :: y)=none:=by unfold lexO; rfl
  rw [e]
  exact (decide_eq_true (LH y.length)).symm
 | _ :: _,[]=>rfl
 | a :: x,b :: y=>by
  rw [qY,aC7]
  by_cases e:a=b
  ·rw [if_pos e,if_pos e,aFW x y,AJ,AJ]
   simp
  ·rw [if_neg e,if_neg e]; rfl
theorem aDk (b:Bool):∀ (us vs:List Value) (ns ms:List Int) (k:Nat) {Q:Option Bool×Unit->Ad->Prop},EG us ns->EG vs ms->Q (lexO ns ms,()) s ->
  Ar (AB prog w) A (forIn ((us.zip vs).zipIdx k) ((none,()):Option Bool×Unit) fun x __s=>match x with
     | ((p,q),i)=>do
      let __do_lift <- eqBool p q
      if (!__do_lift)=true then do
        let __do_lift <- oneLt' (b && i == 0) p q
        pure (ForInStep.done (some __do_lift,()))
       else pure (DR (none,()))) Q E s
 | _,_,_,_,k,Q,.nil,_,h=>by
  rw [List.zip_nil_left,GP]
  exact Ab (by cases ‹EG _ _› <;> exact h)
 | _,_,_,_,k,Q,.cons m t r,.nil,h=>by
  rw [List.zip_nil_right,GP]
  exact Ab h
 | _,_,_,_,k,Q,.cons m t (vs:=us) (ns:=ns) r,.cons n u (vs:=vs) (ns:=ms) r2,h=>by
  rw [DA,IQ,FK]
  rw [aC7] at h
  refine Aa (Aa (LO ?_))
  by_cases e:m=n
  ·rw [if_pos e] at h
   rw [show (m == n)=true from beq_iff_eq.mpr e]
   exact Ab (aDk b us vs ns ms (k + 1) r r2 h)
  ·rw [if_neg e] at h
   rw [show (m == n)=false from beq_false_of_ne e]
   exact Aa (aIq _ (Ab (Ab h)))
theorem aBL:∀ {us:List Value} {ns:List Int},EG us ns->us.length=ns.length
 | _,_,.nil=>rfl
 | _,_,.cons _ _ r=>by rw [AJ,AJ,aBL r]
theorem aKL (b:Bool) {x y:Value} {ns ms:List Int} {Q:Bool->Ad->Prop} (hx:TupI s.heap x ns) (hy:TupI s.heap y ms) (h:Q (lx ns ms) s):Ar (AB prog w) A (keyLt' (jp b) x y) Q E s:=by
 obtain ⟨a,us,rfl,⟨oa,ha,_,na,da⟩,iu⟩:=hx
 obtain ⟨c,vs,rfl,⟨oc,hc,_,nc,dc⟩,iv⟩:=hy
 have l1:=aBL iu
 have l2:=aBL iv
 rw [aFV]
 refine Aa (Ea ha da (Aa (Ea hc dc (Aa (aDk b us vs ns ms 0 iu iv ?_)))))
 rw [aFW] at h
 cases e:lexO ns ms with
 | some r=>rw [e] at h; exact Ab h
 | none =>
  rw [e] at h
  refine Ab ?_
  rw [Ao,Ao,l1,l2]
  exact h
theorem aAP {l:Addr} {us:List Value} {Q:List Value->Ad->Prop} (hl:s.heap.IsTuple l us.toArray) (hz:us.length<=sizeLine)
  (q:∀ g,(∀ b o,s.heap.get? b=some o->g.get? b=some o)->g.objs.size=s.heap.objs.size + 1->Q us { s with heap:=g }):Ar (AB prog w) A (Lm (.ref l)) Q E s:=by
 obtain ⟨o,ho,hc,n,hd⟩:=id hl
 have new:(s.heap.push (Bg "list" #[] 0)).get? s.heap.objs.size=some (Bg "list" #[] 0):=Ag _ rfl
 have old:(s.heap.push (Bg "list" #[] 0)).get? l=some o:=Ac _ ho
 unfold Lm
 refine Aa (Hz (BS GD ?_))
 refine Aa (m:=Mm []) (DF (Ab ⟨DB _ (by decide +kernel),BS IR ?_⟩))
 show Ar _ _ (CB (.ref s.heap.objs.size) (.ref l) (.ref s.heap.objs.size)) _ _ _
 unfold CB
 refine Aa (FA (T:="tuple") ⟨o,old,hc⟩ ?_)
 rw [if_pos (by rw [show (Dy "tuple" == Dy "tuple")=true from rfl]; simp)]
 refine Aa (Ea old hd (Aa (Ea new rfl ?_)))
 rw [if_neg (by simp)]
 refine Aa (Du new rfl ?_ (AL _) (by show (#[]++us.toArray).size<=_; rw [Ln]; show 0 + us.toArray.size<=_; rw [Ao]; lia))
 refine Ab ?_
 show Ar (AB prog w) A (load s.heap.objs.size >>= fun o=>match o.data with
   | .seq xs _=>pure xs.toList
   | _=>IB "internal:collect") Q E { s with heap:=(s.heap.push (Bg "list" #[] 0)).update s.heap.objs.size (BB (·++us.toArray)) }
 refine Aa (JG (FO new _) ?_)
 show Ar _ _ (pure ((#[]:Array Value)++us.toArray).toList) Q E _
 rw [show ((#[]:Array Value)++us.toArray).toList=us by simp]
 refine Ab (q _ (fun b o' e=>?_) (by rw [Fn,Bo]))
 have ne:b≠s.heap.objs.size:=AC (Ap e)
 exact (AF _ _ (BT ne)).trans (Ac _ e)
theorem aFX {α β:Type} {f:α->Sem β} {r:α->β}:∀ (l:List α),(∀ x∈l,∀ {Q:β->Ad->Prop},Q (r x) s->Ar (AB prog w) A (f x) Q E s)->∀ {Q:List β->Ad->Prop},Q (l.map r) s->Ar (AB prog w) A (l.mapM f) Q E s
 | [],_,Q,h=>by rw [List.mapM_nil]; exact Ab h
 | x :: t,hf,Q,h=>by
  rw [List.mapM_cons]
  exact Aa (hf x (Am ..) (Aa (aFX t (fun y hy=>hf y (Al _ hy)) (Ab h))))
theorem aDl {ks:List Value} {f:Value->List Int} (hk:∀ v∈ks,TupI s.heap v (f v)/\f v≠[]) {Q:SortKind->Ad->Prop} (q:∀ b,Q (jp b) s):Ar (AB prog w) A (keyKind' ks.toArray) Q E s:=by
  have hf:∀ v∈ks,∃ m t,∀ {Q:Option Value->Ad->Prop},Q (some (.int m t)) s->Ar (AB prog w) A (firstOfTuple' v) Q E s:=fun v hv=>by
    obtain ⟨ht,ne⟩:=hk v hv
    cases e:f v with
    | nil=>exact absurd e ne
    | cons m r =>
      rw [e] at ht
      obtain ⟨a,us,rfl,hT,iu⟩:=ht
      cases iu with
      | cons m t r2 =>
        refine ⟨m,t,fun {Q} h=>?_⟩
        obtain ⟨o,ho,hc,n,hd⟩:=hT
        show Ar _ _ (do if (<- typeOf (.ref a)) != .type "tuple" then return none
                           return (<- Dm (.ref a))[0]?) _ _ s
        refine Aa (FA (T:="tuple") ⟨o,ho,hc⟩ ?_)
        rw [if_neg (by decide)]
        exact Aa (Ea ho hd (Ab h))
  obtain ⟨g,hg⟩:∃ g:Value->Int×Tok,∀ v∈ks,∀ {Q:Option Value->Ad->Prop},Q (some (.int (g v).1 (g v).2)) s->Ar (AB prog w) A (firstOfTuple' v) Q E s:=by
    classical
    refine ⟨fun v=>if h:v∈ks then ((hf v h).choose,(hf v h).choose_spec.choose) else (0,0),fun v hv Q h=>?_⟩
    dsimp only at h
    rw [dif_pos hv] at h
    exact (hf v hv).choose_spec.choose_spec h
  rw [keyKind'_eq,Lo]
  rw [map_eq_pure_bind,bind_assoc]
  refine Aa (aFX (r:=fun v=>some (.int (g v).1 (g v).2)) ks hg ?_)
  rw [KJ]
  rw [if_pos (by simp)]
  refine Aa (CK ?_)
  have iz:∃ ns,EG (ks.map fun v=>DP (g v).1 (g v).2) ns:=by
    clear hk hf hg q
    induction ks with
    | nil=>exact ⟨[],.nil⟩
    | cons v r ih =>
      obtain ⟨ns,h⟩:=ih
      exact ⟨_,.cons _ _ h⟩
  obtain ⟨ns,iz⟩:=iz
  have ef:(ks.map fun v=>some (DP (g v).1 (g v).2)).toArray.filterMap id=(ks.map fun v=>DP (g v).1 (g v).2).toArray:=by
    apply Fo.mp
    rw [Array.toList_filterMap]
    show My id (ks.map fun v=>some (DP (g v).1 (g v).2))=ks.map fun v=>DP (g v).1 (g v).2
    rw [KD]
    show My (fun v=>some (DP (g v).1 (g v).2)) ks=_
    rw [List.filterMap_eq_map']
  rw [ef,oneTypeOnly'_eq,Lo,mapM_typeOf_ints iz,map_pure,KJ]
  cases hts:(MU (fun x=>Dy "int") (MU (fun v=>DP (g v).fst (g v).snd) ks)).toArray[0]? with
  | none=>exact Aa (Ab (Ab (q _)))
  | some t=>exact Aa (Ab (Ab (q _)))
end
theorem aCu (a f:Addr):Builtin.«list.sort» ⟨[.ref a],[("key",.ref f)]⟩=(do
  let row <- Dm (.ref a)
  Dg (.ref a) fun _=>#[]
  let first <- seqEpoch a
  let kept <- KO row.toList
  let store <- Mm []
  Iq [kept,store] do
   rule "list.sort.key"
   for x in row do
    match <- (call (.ref f) [x]).attempt with
    | .ok k=>Dg store (·.push k)
    | .error e =>
     rule "list.sort.key-raised"
     let made <- Dm store
     Dg store fun _=>#[]
     letGo made.toList.reverse [e]
     Dg (.ref a) fun _=>row
     throw e
   let ks <- Dm store
   let kd <- if row.size < 2 then pure Md else keyKind' ks
   let ((),st) <- (if row.size < 2 then pure () else sortRuns').run (GI kd (ks.zip row) #[] 7 none)
   Dg store fun _=>#[]
   letGo ((BL st).map (·.1)).toList (GH st).toList
   let other:=(<- seqEpoch a) != first
   Dg (.ref a) fun _=>(BL st).map (·.2)
   if let some e:=GH st then rule "list.sort.comparison-raised"; throw e
   if other then rule "list.sort.modified"; raiseError "ValueError" "list modified during sort"
   ret .none):=rfl
section
variable {X:Cx} {k:Nat} {f:Addr} {fd:Bu} {ps:List Str} {sp:Sp}
theorem aIr {pins:List (Addr×Obj)} {σ:St} {H:Hp} {s:Ad} {Q:VK} {us:List Value} {vs:List V} {E:XK} (F:FnOk X.prog X.w X.K X.mg X.base CX0 k f fd ps sp) (hr:Room (k + 2) X.A) (hb:Binds X.K fd ps [])
  (I:Inv X pins σ H s) (r:Vals vs us) (h:sp vs H Q E) {E':Value->Ad->Prop}:Ar (AB X.prog X.w) X.A.in1.in1 (call (.ref f) us) (EP X pins σ Q) E' s:=by
 have hl:us.length=ps.length:=by rw [<- r.length]; exact F.len _ _ _ _ h
 have hb':=hb s us I.kIn (by rw [AM]; exact hl)
 rw [AM] at hb'
 refine Fx (Dh (F.run X.A.in1.in1 X.stack s H ⟨us,[]⟩ us vs Q E hr.in1.in1 I.env0.in1.in1 hb' r h) fun z s' hq=>?_)
 cases z with
 | error e=>exact Dz hq
 | ok fl =>
  cases fl with
  | ret u=>exact I.after hq
  | next=>exact Dz hq
  | brk=>exact Dz hq
  | cont=>exact Dz hq
end
section
variable {prog:At} {w:AV} {A:AY} {E:Value->Ad->Prop} {s:Ad}
open Classical in
noncomputable def qF (h:Heap) (v:Value):List Int:=if c:∃ ns,TupI h v ns then c.choose else []
theorem aHG {us:List Value} {ns ms:List Int} (a:EG us ns) (b:EG us ms):ns=ms:=by
 induction a generalizing ms with
 | nil=>cases b; rfl
 | cons n t r ih=>cases b with | cons _ _ r2=>rw [ih r2]
theorem TupI.one {h:Heap} {v:Value} {ns ms:List Int} (a:TupI h v ns) (b:TupI h v ms):ns=ms:=by
 obtain ⟨p,us,rfl,⟨o,ho,_,n,hd⟩,iu⟩:=a
 obtain ⟨p2,vs,e,⟨o2,ho2,_,n2,hd2⟩,iv⟩:=b
 cases e
 rw [ho] at ho2
 cases ho2
 rw [hd] at hd2
 have e2:us.toArray=vs.toArray:=by injection hd2
 have e3:us=vs:=by simpa using e2
 subst e3
 exact aHG iu iv
theorem yu {h:Heap} {v:Value} {ns:List Int} (a:TupI h v ns):qF h v=ns:=by
 have c:∃ ns,TupI h v ns:=⟨ns,a⟩
 unfold qF
 rw [dif_pos c]
 exact c.choose_spec.one a
theorem aFY (b:Bool) {a0:Array Ia} (hk:∀ p∈a0.toList,∃ ns,TupI s.heap p.1 ns):Srt (O:=lxO) (AB prog w) A E s (fun p=>qF s.heap p.1) ([]:List Int) a0.size (TB (jp b) a0) where
 lt:=fun {st i j Q} hb hi hj q=>by
  have z:(BL st).size=a0.size:=hb.perm.size_eq
  have gi:(BL st)[i]?=some (BL st)[i]:=getElem?_pos _ i (by lia)
  have gj:(BL st)[j]?=some (BL st)[j]:=getElem?_pos _ j (by lia)
  have inn:∀ p,p∈(BL st).toList->∃ ns,TupI s.heap p.1 ns:=fun p hp=>hk p ((DV.mp hb.perm).mem_iff.mp hp)
  obtain ⟨ni,ti⟩:=inn (BL st)[i] (by simp)
  obtain ⟨nj,tj⟩:=inn (BL st)[j] (by simp)
  have q2:Q (some (lx ni nj)) st:=by
   have e1:fk (O:=lxO) (fun p=>qF s.heap p.1) ([]:List Int) (BL st) i=ni:=by unfold fk; rw [gi]; exact yu ti
   have e2:fk (O:=lxO) (fun p=>qF s.heap p.1) ([]:List Int) (BL st) j=nj:=by unfold fk; rw [gj]; exact yu tj
   rw [e1,e2] at q
   exact q
  rw [ltAt'_eq]
  refine Cj (Ml ?_)
  show wpS _ _ _ _ (elem' (BL st) i >>= fun x=>elem' (BL st) j >>= fun y=>lt' x y) Q st
  rw [elem'_eq,elem'_eq,gi,gj]
  refine Cj (Dt (Cj (Dt ?_)))
  rw [lt'_eq]
  refine Cj (Ml ?_)
  rw [hb.kind]
  exact Cj (wpS_lift (CT (aKL b ti tj ⟨rfl,Dt q2⟩)))
 put:=fun {st xs} hb hp=>⟨hb.kind,hp.trans hb.perm,hb.pend,hb.fail⟩
 sz:=fun {st} hb=>hb.perm.size_eq
end
theorem aFZ {α β:Type} {g:α->β}:∀ {l m:List β},l.Perm m->∀ T:List α,T.map g=m->∃ T':List α,T'.Perm T/\T'.map g=l:=by
 intro l m h
 induction h with
 | nil=>intro T e; exact ⟨T,.refl _,e⟩
 | cons x _ ih =>
  intro T e
  cases T with
  | nil=>cases e
  | cons a r =>
   injection e with e1 e2
   obtain ⟨T',p,e3⟩:=ih r e2
   exact ⟨a :: T',.cons a p,by rw [AA,e1,e3]⟩
 | swap x y l =>
  intro T e
  match T,e with
  | a :: b :: r,e =>
   injection e with e1 e2
   injection e2 with e3 e4
   exact ⟨b :: a :: r,.swap a b r,by rw [AA,AA,e1,e3,e4]⟩
 | trans _ _ i1 i2 =>
  intro T e
  obtain ⟨T1,p1,e1⟩:=i2 T e
  obtain ⟨T2,p2,e2⟩:=i1 T1 e1
  exact ⟨T2,p2.trans p1,e2⟩
theorem aAQ:∀ {ts:List Addr} {us:List Value},Vals (ts.map V.ref) us->us=ts.map Value.ref
 | [],_,.nil=>rfl
 | t :: r,_,.cons h h2=>by
  have e:_=Value.ref t:=h
  rw [AA,<- aAQ h2,e]
theorem aIs {T:List (Ia×V)} (h:∀ p∈T,RelV p.2 p.1.2):Vals (T.map (·.2)) (T.map (·.1.2)):=by
 induction T with
 | nil=>exact .nil
 | cons p r ih=>exact .cons (h p (Am ..)) (ih fun x hx=>h x (Al _ hx))
theorem zip3 {R:Addr->V->Prop}:∀ {ts:List Addr} {xs:List V} {us:List Value},AH R ts xs->Vals xs us ->
  ((((ts.map Value.ref).zip us).zip xs).map (·.1)=(ts.map Value.ref).zip us)/\((((ts.map Value.ref).zip us).zip xs).map (·.2)=xs)/\∀ p∈((ts.map Value.ref).zip us).zip xs,RelV p.2 p.1.2/\∃ t,p.1.1=.ref t/\R t p.2
 | [],[],[],.nil,.nil=>⟨rfl,rfl,fun p hp=>by cases hp⟩
 | t :: ts,x :: xs,u :: us,.cons a r,.cons b r2=>by
  obtain ⟨h1,h2,h3⟩:=zip3 r r2
  refine ⟨by rw [AA,DA,DA,AA,h1],by rw [AA,DA,DA,AA,h2],fun p hp=>?_⟩
  rw [AA,DA,DA] at hp
  rcases Aj.mp hp with rfl | hp
  ·exact ⟨b,t,rfl,a⟩
  ·exact h3 p hp
theorem aAy {α β:Type} {R:α->β->Prop}:∀ {a:List α} {b:List β} {c:List α} {d:List β},AH R a b->AH R c d->AH R (a++c) (b++d)
 | _,_,_,_,.nil,h=>h
 | _,_,_,_,.cons x r,h=>.cons x (aAy r h)
theorem jN {h:Heap} {T:List (Ia×V)} {a:Array Ia} {key:V->List Int} (hp:a.toList.Perm (T.map (·.1))) (hT:∀ p∈T,RelV p.2 p.1.2/\TupI h p.1.1 (key p.2))
  (up:Up (O:=lxO) (fk (O:=lxO) (fun p=>qF h p.1) ([]:List Int) a) a.size):∃ ys:List V,ys.Perm (T.map (·.2))/\Vals ys (a.toList.map (·.2))/\ys.Pairwise (fun x y=>lx (key y) (key x)=false):=by
 obtain ⟨T',pT,eT⟩:=aFZ (g:=fun p:Ia×V=>p.1) hp T rfl
 have mem:∀ p∈T',RelV p.2 p.1.2/\TupI h p.1.1 (key p.2):=fun p hp=>hT p (pT.mem_iff.mp hp)
 have lenT:T'.length=a.size:=by
  have:=congrArg Mh eT
  rw [Ah,Bt] at this
  exact this
 refine ⟨T'.map (·.2),pT.map _,?_,?_⟩
 ·have e:a.toList.map (·.2)=T'.map (·.1.2):=by rw [<- eT,LI]; rfl
  rw [e]
  exact aIs fun p hp=>(mem p hp).1
 ·rw [List.pairwise_map,HH]
  intro i j hi hj hij
  have kk:∀ (m:Nat) (hm:m < T'.length),fk (O:=lxO) (fun p=>qF h p.1) ([]:List Int) a m=key T'[m].2:=fun m hm=>by
   have g:a[m]?=some T'[m].1:=by
    rw [<- BA,<- eT,AO,Ax hm]
    rfl
   unfold fk
   rw [g]
   exact yu (mem T'[m] (Fp hm)).2
  have u:=up i j (EL hij) (by lia)
  rw [kk i hi,kk j hj] at u
  exact u
theorem aI8 {α β:Type} {R:α->β->Prop}:∀ {a:List α} {b:List β} {x:α},AH R a b->x∈a->∃ y∈b,R x y
 | _,_,_,.cons h r,hx=>by
  rcases Aj.mp hx with rfl | hx
  ·exact ⟨_,Am ..,h⟩
  ·obtain ⟨y,hy,e⟩:=aI8 r hx
   exact ⟨y,Al _ hy,e⟩
theorem aC8 (a f:Value):Ib "sorted" ⟨[a],[("key",f)]⟩:=by unfold Ib; kernel_rfl
theorem aES (a f:Value):Ib "list.sort" ⟨[a],[("key",f)]⟩:=by unfold Ib; kernel_rfl
section
variable {X:Cx} {k:Nat} {f:Addr} {fd:Bu} {ps:List Str} {sp:Sp}
theorem aFa {pins:List (Addr×Obj)} {σ:St} {H:Hp} {s:Ad} {Q:VK} {l:Addr} {xs:List V} {E:XK} (key:V->List Int) (F:FnOk X.prog X.w X.K X.mg X.base CX0 k f fd ps sp) (hr:Room (k + 2) X.A) (hb:Binds X.K fd ps [])
  (I:Inv X pins σ H s) (hl:SqT X.K H l xs) (h64:xs.length < 64) (hne:∀ x∈xs,key x≠[])
  (hk:∀ (H':Hp) (x:V),Same H H'->x∈xs->∀ Q':VK,(∀ (t:Addr) (H'':Hp),Same H' H''->H'' t=some (.tup ((key x).map V.int))->Q' (.ref t) H'')->sp [x] H' Q' E)
  (q:∀ (p:Addr) (ys:List V) (H':Hp),Same H H'->H' p=some (.lst ys)->ys.Perm xs->ys.Pairwise (fun a b=>lx (key b) (key a)=false)->Q (.ref p) H') :
  Ar (AB X.prog X.w) X.A (call (.builtin "sorted") [.ref l] [("key",.ref f)]) (EP X pins σ Q) X.xe s:=by
 obtain ⟨us,ru,pu,hz⟩:=I.tuple hl
 have lu:xs.length=us.length:=ru.length
 have szl:=Bb
 refine call_function_entry_kw IC Hn Ho (aC8 _ _) ?_
 unfold Builtin.«sorted»
 refine Aa (m:=JH "sorted" 1 1 _) (Ab ?_)
 refine Aa (aAP (show s.heap.IsTuple l us.toArray from pu) (by lia) fun g1 k1 z1=>?_)
 refine Aa (DF ?_)
 have gL:(g1.push (Bg "list" us.toArray 0)).get? g1.objs.size=some (Bg "list" us.toArray 0):=Ag _ rfl
 refine Aa (Bw (wpAny_call_entry_kw Gi ⟨_,gL,rfl⟩ FP ?_ (aES _ _)))
 rw [aCu]
 refine Aa (Ea gL rfl (Aa (Du gL rfl ?_ (by rw [Ao]; lia) (AL _))))
 obtain ⟨e1,gE⟩:∃ e1,((g1.push (Bg "list" us.toArray 0)).update g1.objs.size (BB fun _=>#[])).get? g1.objs.size=some (Bg "list" #[] e1):=⟨_,FO gL (fun _=>#[])⟩
 refine Aa (GR gE rfl (Aa (Hx (Aa (DF (Bw ?_))))))
 dsimp only
 have L1:s.heap.objs.size<=g1.objs.size:=by lia
 have kA:∀ b o,s.heap.get? b=some o->((((g1.push (Bg "list" us.toArray 0)).update g1.objs.size (BB fun _=>#[])).push (Bg "tuple" us.toArray 0)).push (Bg "list" #[] 0)).get? b=some o:=fun b o e=>by
  have ne:b≠g1.objs.size:=AC (Aw (Ap e) L1)
  exact Ac _ (Ac _ ((AF _ _ (BT ne)).trans (Ac _ (k1 b o e))))
 have zA:(((g1.push (Bg "list" us.toArray 0)).update g1.objs.size (BB fun _=>#[])).push (Bg "tuple" us.toArray 0)).objs.size=g1.objs.size + 2:=by rw [Bo,Fn,Bo]
 have gL5:((((g1.push (Bg "list" us.toArray 0)).update g1.objs.size (BB fun _=>#[])).push (Bg "tuple" us.toArray 0)).push (Bg "list" #[] 0)).get? g1.objs.size=some (Bg "list" #[] e1):=Ac _ (Ac _ gE)
 have gS5:((((g1.push (Bg "list" us.toArray 0)).update g1.objs.size (BB fun _=>#[])).push (Bg "tuple" us.toArray 0)).push (Bg "list" #[] 0)).get? (g1.objs.size + 2)=some (Bg "list" #[] 0):=by
  have:=Ag (((g1.push (Bg "list" us.toArray 0)).update g1.objs.size (BB fun _=>#[])).push (Bg "tuple" us.toArray 0)) (o:=Bg "list" #[] 0) rfl
  rw [zA] at this
  exact this
 rw [zA]
 generalize (((g1.push (Bg "list" us.toArray 0)).update g1.objs.size (BB fun _=>#[])).push (Bg "tuple" us.toArray 0)).push (Bg "list" #[] 0)=g5 at kA gL5 gS5 ⊢
 generalize hLe:g1.objs.size=L at *
 have fL:=I.fpOk (b:=L) (H':=H) (by lia) (I.hok.fresh (by lia))
 have nS:H (L + 2)=none:=I.hok.fresh (by lia)
 have I2:Inv X pins σ (upd H (L + 2) (.lst [])) { s with heap:=g5 }:=I.laid (t':=s.toks) kA (by lia) ⟨AL _,[],0,.nil,gS5⟩
 have I3:Inv X (pins++[(L,Bg "list" #[] e1)]) σ (upd H (L + 2) (.lst [])) { s with heap:=g5 }:=I2.pins_of fun p hp=>by
  rcases Bj.mp hp with hp | hp
  ·exact I2.pin p (An _ hp)
  ·rw [Ae.mp hp]
   exact ⟨gL5,by rw [zH (show L≠L + 2 from AC (ID (by decide)))]; exact fL.1,fL.2.1,fL.2.2.1,fun v e=>by cases e⟩
 refine Aa (CK (Aa (AT (forIn_array_ _ (fun rest _ s'=>∃ (dv rv:List V) (du:List Value) (ts:List Addr) (Hc:Hp),xs=dv++rv/\us=du++rest/\Vals rv rest/\Vals dv du/\Inv X (pins++[(L,Bg "list" #[] e1)]) σ Hc s'/\Same H Hc/\Hc (L + 2)=some (.lst (ts.map V.ref))/\AH (fun t x=>Hc t=some (.tup ((key x).map V.int))) ts dv)
  (fun _ s'=>∃ (ts:List Addr) (Hc:Hp),Inv X (pins++[(L,Bg "list" #[] e1)]) σ Hc s'/\Same H Hc/\Hc (L + 2)=some (.lst (ts.map V.ref))/\AH (fun t x=>Hc t=some (.tup ((key x).map V.int))) ts xs) ?turn ?fin us.toArray NF ⟨[],xs,[],[],_,rfl,rfl,ru,.nil,I3,(fun b o e=>by rw [zH (zD e nS)]; exact e),zC,.nil⟩) ?post fun _ _ e=>e)))
 case fin =>
  rintro _ s' ⟨dv,rv,du,ts,Hc,e1,e2,v1,v2,Ic,sc,hS,pr⟩
  cases v1
  rw [AM] at e1
  subst e1
  exact ⟨ts,Hc,Ic,sc,hS,pr⟩
 case turn =>
  rintro x rest _ s' ⟨dv,rv,du,ts,Hc,e1,e2,v1,v2,Ic,sc,hS,pr⟩
  cases v1 with
  | @cons xv _ rv' _ rx v1 =>
  have hm:xv∈xs:=by rw [e1]; exact An _ (Am ..)
  have lts:=pr.length
  have ldv:dv.length<=xs.length:=by rw [e1,Ai]; lia
  refine Aa (CT (AT (aIr F hr hb Ic (.cons rx .nil) (hk Hc xv sc hm (fun v H''=>∃ t,v=.ref t/\Same Hc H''/\H'' t=some (.tup ((key xv).map V.int))) fun t H'' s2 ht=>⟨t,rfl,s2,ht⟩)) (fun u s2x h=>?_) fun _ _ e=>e))
  obtain ⟨v,H2,Id,rv2,t,rfl,s2,ht⟩:=h
  obtain rfl:u=Value.ref t:=rv2
  obtain ⟨zz,its,n,r,hl2,e⟩:=Id.lstM (s2 _ _ hS)
  have li:its.length=ts.length:=by rw [<- hl2,Ah]
  dsimp only
  refine Aa (Du e rfl ?_ (by rw [Ao]; lia) (by show (its.toArray.push _).size<=_; rw [Jo,Ao]; lia))
  refine Ab ?_
  have I4:=Id.lset (t':=s2x.toks) (its':=its++[Value.ref t]) (f:=fun x=>x.push (Value.ref t)) (ys:=(ts++[t]).map V.ref) (s2 _ _ hS) e (by simp) (by rw [Bh]; exact r.append (.cons rfl .nil)) (by rw [Ah,Ai]; show _ + 1<=_; lia)
  have tkp:∀ (a:Addr) (zs:List V),H2 a=some (.tup zs)->(upd H2 (L + 2) (.lst ((ts++[t]).map V.ref))) a=some (.tup zs):=fun a zs h=>by
   rw [zH (fun e=>by rw [e,s2 _ _ hS] at h; cases h)]; exact h
  exact ⟨dv++[xv],rv',du++[x],ts++[t],_,by rw [e1]; simp,by rw [e2]; simp,v1,v2.append (.cons rx .nil),I4,(fun b o eb=>by rw [zH (zD eb nS)]; exact s2 _ _ (sc b o eb)),zC,aAy (L2.Paired.mapP pr fun a y h=>tkp a _ (s2 _ _ h)) (.cons (tkp t _ ht) .nil)⟩
 case post =>
  rintro _ s6 ⟨ts,Hc,Ic,sc,hS,pr⟩
  have ltx:=pr.length
  obtain ⟨zz,its,n6,r6,hl6,g6⟩:=Ic.lstM hS
  have ei:=aAQ r6
  subst ei
  obtain ⟨z1,z2,z3⟩:=zip3 pr ru
  have hT:∀ p∈((ts.map Value.ref).zip us).zip xs,RelV p.2 p.1.2/\TupI s6.heap p.1.1 (key p.2):=fun p hp=>by
   obtain ⟨a1,t,e,ht⟩:=z3 p hp
   obtain ⟨us',r',p',_⟩:=Ic.tuple (SqT.of ht)
   exact ⟨a1,t,us',e,p',yb r'⟩
  have pinL:s6.heap.get? L=some (Bg "list" #[] e1)/\Hc L=none:=by
   have:=Ic.pin (L,Bg "list" #[] e1) (An _ (An _ (Ae.mpr rfl)))
   exact ⟨this.1,this.2.1⟩
  have sz0:((ts.map Value.ref).toArray.zip us.toArray).size=xs.length:=by
   rw [Array.size_zip,Ao,Ao,Ah]; lia
  have tl0:((ts.map Value.ref).toArray.zip us.toArray).toList=(((ts.map Value.ref).zip us).zip xs).map (·.1):=by rw [z1]; simp
  refine Aa (Ea g6 rfl ?_)
  by_cases h2:us.toArray.size < 2
  ·rw [if_pos h2]
   refine Aa (Ab ?_)
   rw [if_pos h2,Mn]
   refine Aa (Ab ?_)
   have hp:(BL (GI Md ((ts.map Value.ref).toArray.zip us.toArray) #[] 7 none)).Perm ((ts.map Value.ref).toArray.zip us.toArray):=Jp _
   have hf:GH (GI Md ((ts.map Value.ref).toArray.zip us.toArray) #[] 7 none)=none:=rfl
   have up:Up (O:=lxO) (fk (O:=lxO) (fun p=>qF s6.heap p.1) ([]:List Int) (BL (GI Md ((ts.map Value.ref).toArray.zip us.toArray) #[] 7 none))) ((ts.map Value.ref).toArray.zip us.toArray).size:=fun i j a b=>by
    rw [Ao] at h2
    have e:i=j:=by lia
    rw [e]; exact Df _
   generalize GI Md ((ts.map Value.ref).toArray.zip us.toArray) #[] 7 none=st at hp hf up ⊢
   dsimp only
   obtain ⟨ys,py,vy,wy⟩:=jN (h:=s6.heap) (T:=((ts.map Value.ref).zip us).zip xs) (a:=BL st) (key:=key) (by rw [<- tl0]; exact DV.mp hp) hT (by rw [hp.size_eq]; exact up)
   have szs:(BL st).size=xs.length:=hp.size_eq.trans sz0
   refine Aa (Du g6 rfl ?_ (by rw [Ao,Ah]; lia) (AL _))
   have I7:=Ic.lset (t':=s6.toks) (its':=[]) (f:=fun _=>#[]) (ys:=[]) hS g6 rfl .nil (AL _)
   have gL7:=(I7.pin (L,Bg "list" #[] e1) (An _ (An _ (Ae.mpr rfl))))
   refine Aa (EN (Aa (GR gL7.1 rfl (Aa (Du gL7.1 rfl ?_ (AL _) (by rw [HN]; lia))))))
   rw [hf]
   dsimp only
   rw [if_neg (by simp)]
   refine Ab ⟨_,rfl,Ab ⟨_,rfl,?_⟩⟩
   have I8:=I7.pins_of (pins':=pins) fun p hp=>I7.pin p (An _ (CL _ hp))
   have nL:=gL7.2.1
   have oth:∀ b o,b ∉ [L]->(s6.heap.update (L + 2) (BB fun _=>#[])).get? b=some o->((s6.heap.update (L + 2) (BB fun _=>#[])).update L (BB fun _=>(BL st).map (·.2))).get? b=some o:=fun b o nb e=>by
    have ne:b≠L:=fun z=>nb (by rw [z]; exact Ae.mpr rfl)
    exact (AF _ _ (BT ne)).trans e
   refine ⟨.ref L,upd (upd Hc (L + 2) (.lst [])) L (.lst ys),?_,rfl,q L ys _ (fun b o e=>?_) zC (by rw [z2] at py; exact py) wy⟩
   ·refine Inv.step (s:={ s6 with heap:=s6.heap.update (L + 2) (BB fun _=>#[]) }) (g':=s6.gens) (d':=s6.drawn) (t':=s6.toks) (ch:=[L]) I8 (fun b hb=>?_) (fun b o _ _ hc e _=>oth b o hc e) (fun b o _ _ hc e _=>⟨o.slots,oth b o hc e⟩) (fun b o hc e n=>?_) (fun b o hc e=>⟨o,oth b o hc e⟩) (fun b zs e=>?_) (fun b o u e=>?_) (fun b ps e=>⟨#[],?_⟩) (fun m hm=>?_) (fun b o e=>?_) I8.bare
    ·rw [Ae.mp hb]
     exact ⟨fL.2.2.2.1,fL.2.1,fL.2.2.2.2.1,fL.2.2.2.2.2⟩
    ·rw [zH (fun z=>hc (by rw [z]; exact Ae.mpr rfl))]; exact n
    ·rw [zH (zD e nL)]; exact e
    ·rw [zH (zD e nL)]; exact e
    ·rw [zH (zD e nL),e]; simp
    ·obtain ⟨o,es,ep,ho,r⟩:=hm
     exact ⟨o,es,ep,oth _ o (fun z=>fL.2.1 (Ae.mp z).symm) ho,r⟩
    ·by_cases hb:b=L
     ·subst hb
      rw [zC] at e
      cases e
      have lys:ys.length=(BL st).size:=by have:=py.length_eq; rw [z2] at this; lia
      exact ⟨by lia,_,_,vy,by
       have:=FO gL7.1 (fun _=>(BL st).map (·.2))
       rw [this]
       congr 3
       apply Fo.mp
       simp⟩
     ·rw [zH hb] at e
      refine (I8.hok b o e).stay (fun c v' hcc r=>?_) (fun c r=>by rw [zH (zD r nL)]; exact r) fun c xs r=>by rw [zH (zD r nL)]; exact r
      rcases hcc with rfl | hcc
      ·exact oth c v' (fun z=>hb (Ae.mp z)) r
      ·exact oth c v' (fun z=>zD hcc nL (Ae.mp z)) r
   ·rw [zH (zD e fL.1),zH (zD e nS)]; exact sc b o e
  ·rw [if_neg h2]
   refine Aa (aDl (f:=fun v=>qF s6.heap v) (fun v hv=>?_) fun b=>?_)
   ·obtain ⟨t,ht,rfl⟩:=Bk.mp hv
    obtain ⟨x,hx,e⟩:=aI8 pr ht
    obtain ⟨us',r',p',_⟩:=Ic.tuple (SqT.of e)
    have ti:TupI s6.heap (.ref t) (key x):=⟨t,us',rfl,p',yb r'⟩
    rw [yu ti]
    exact ⟨ti,hne x hx⟩
   rw [if_neg h2]
   rw [Ao] at h2
   have hk0:∀ p∈((ts.map Value.ref).toArray.zip us.toArray).toList,∃ ns,TupI s6.heap p.1 ns:=fun p hp=>by
    rw [tl0] at hp
    obtain ⟨p2,h2,rfl⟩:=Bk.mp hp
    exact ⟨_,(hT p2 h2).2⟩
   refine Aa (AT (aDj (aFY b hk0) (by rw [sz0]; lia) (by rw [sz0]; exact h64) (st:=GI (jp b) ((ts.map Value.ref).toArray.zip us.toArray) #[] 7 none) ⟨rfl,Jp _,rfl,rfl⟩ (Q:=fun _ st=>(BL st).Perm ((ts.map Value.ref).toArray.zip us.toArray)/\GH st=none/\Up (O:=lxO) (fk (O:=lxO) (fun p=>qF s6.heap p.1) ([]:List Int) (BL st)) ((ts.map Value.ref).toArray.zip us.toArray).size) fun st' a b c=>⟨a,b,c⟩) ?_ fun _ _ e=>e)
   rintro ⟨⟨⟩,st⟩ s' ⟨es,hp,hf,up⟩
   have es2:=es.symm
   subst es2
   dsimp only
   obtain ⟨ys,py,vy,wy⟩:=jN (h:=s6.heap) (T:=((ts.map Value.ref).zip us).zip xs) (a:=BL st) (key:=key) (by rw [<- tl0]; exact DV.mp hp) hT (by rw [hp.size_eq]; exact up)
   have szs:(BL st).size=xs.length:=hp.size_eq.trans sz0
   refine Aa (Du g6 rfl ?_ (by rw [Ao,Ah]; lia) (AL _))
   have I7:=Ic.lset (t':=s6.toks) (its':=[]) (f:=fun _=>#[]) (ys:=[]) hS g6 rfl .nil (AL _)
   have gL7:=(I7.pin (L,Bg "list" #[] e1) (An _ (An _ (Ae.mpr rfl))))
   refine Aa (EN (Aa (GR gL7.1 rfl (Aa (Du gL7.1 rfl ?_ (AL _) (by rw [HN]; lia))))))
   rw [hf]
   dsimp only
   rw [if_neg (by simp)]
   refine Ab ⟨_,rfl,Ab ⟨_,rfl,?_⟩⟩
   have I8:=I7.pins_of (pins':=pins) fun p hp=>I7.pin p (An _ (CL _ hp))
   have nL:=gL7.2.1
   have oth:∀ b o,b ∉ [L]->(s6.heap.update (L + 2) (BB fun _=>#[])).get? b=some o->((s6.heap.update (L + 2) (BB fun _=>#[])).update L (BB fun _=>(BL st).map (·.2))).get? b=some o:=fun b o nb e=>by
    have ne:b≠L:=fun z=>nb (by rw [z]; exact Ae.mpr rfl)
    exact (AF _ _ (BT ne)).trans e
   refine ⟨.ref L,upd (upd Hc (L + 2) (.lst [])) L (.lst ys),?_,rfl,q L ys _ (fun b o e=>?_) zC (by rw [z2] at py; exact py) wy⟩
   ·refine Inv.step (s:={ s6 with heap:=s6.heap.update (L + 2) (BB fun _=>#[]) }) (g':=s6.gens) (d':=s6.drawn) (t':=s6.toks) (ch:=[L]) I8 (fun b hb=>?_) (fun b o _ _ hc e _=>oth b o hc e) (fun b o _ _ hc e _=>⟨o.slots,oth b o hc e⟩) (fun b o hc e n=>?_) (fun b o hc e=>⟨o,oth b o hc e⟩) (fun b zs e=>?_) (fun b o u e=>?_) (fun b ps e=>⟨#[],?_⟩) (fun m hm=>?_) (fun b o e=>?_) I8.bare
    ·rw [Ae.mp hb]
     exact ⟨fL.2.2.2.1,fL.2.1,fL.2.2.2.2.1,fL.2.2.2.2.2⟩
    ·rw [zH (fun z=>hc (by rw [z]; exact Ae.mpr rfl))]; exact n
    ·rw [zH (zD e nL)]; exact e
    ·rw [zH (zD e nL)]; exact e
    ·rw [zH (zD e nL),e]; simp
    ·obtain ⟨o,es,ep,ho,r⟩:=hm
     exact ⟨o,es,ep,oth _ o (fun z=>fL.2.1 (Ae.mp z).symm) ho,r⟩
    ·by_cases hb:b=L
     ·subst hb
      rw [zC] at e
      cases e
      have lys:ys.length=(BL st).size:=by have:=py.length_eq; rw [z2] at this; lia
      exact ⟨by lia,_,_,vy,by
       have:=FO gL7.1 (fun _=>(BL st).map (·.2))
       rw [this]
       congr 3
       apply Fo.mp
       simp⟩
     ·rw [zH hb] at e
      refine (I8.hok b o e).stay (fun c v' hcc r=>?_) (fun c r=>by rw [zH (zD r nL)]; exact r) fun c xs r=>by rw [zH (zD r nL)]; exact r
      rcases hcc with rfl | hcc
      ·exact oth c v' (fun z=>hb (Ae.mp z)) r
      ·exact oth c v' (fun z=>zD hcc nL (Ae.mp z)) r
   ·rw [zH (zD e fL.1),zH (zD e nS)]; exact sc b o e
end
theorem yk:BW "sorted"=some (.builtin "sorted"):=by decide +kernel
section
variable {X:Cx} {k:Nat} {f:Addr} {fd:Bu} {ps:List Str} {sp:Sp}
noncomputable def aI9 (K:Af) (sp:Sp) (E:XK) (ta:TE):TE:=fun σ H Q=>ta σ H fun x H1=>∃ (l:Addr) (xs:List V) (key:V->List Int),x=.ref l/\SqT K H1 l xs/\xs.length < 64/\(∀ x∈xs,key x≠[]) /\
 (∀ (H':Hp) (x:V),Same H1 H'->x∈xs->∀ Q':VK,(∀ (t:Addr) (H'':Hp),Same H' H''->H'' t=some (.tup ((key x).map V.int))->Q' (.ref t) H'')->sp [x] H' Q' E) /\
 ∀ (p:Addr) (ys:List V) (H':Hp),Same H1 H'->H' p=some (.lst ys)->ys.Perm xs->ys.Pairwise (fun a b=>lx (key b) (key a)=false)->Q (.ref p) H'
theorem aHH {a:Expr} {ta:TE} {g:Str} {p p2 kp pos:Pos} {E:XK} (F:FnOk X.prog X.w X.K X.mg X.base CX0 k f fd ps sp) (hb:Binds X.K fd ps []) (hm:X.mg g=some (.ref f)) (hr:Room (k + 2) X.A) (hms:X.mg "sorted"=none) (ha:PE X a ta)
  (hgs:Gl X "sorted":=by rfl) (hg:Gl X g:=by rfl) (hdb:(g == ("__debug__":Str))=false:=by decide) (hs:AW [a] X.env=[(false,eval a X.env)]:=by rfl) :
  PE X (.Call (.Name "sorted" p) [a] [⟨some "key",.Name g p2,kp⟩] pos) (aI9 X.K sp E ta):=by
 intro pins s σ H Q I h
 refine Cb (qT I hgs hms yk ?_)
 refine callWith_kw (thn ((zB ha zE hs) pos pins s σ H (fun vs H1=>match vs with
  | [x]=>∃ (l:Addr) (xs:List V) (key:V->List Int),x=.ref l/\SqT X.K H1 l xs/\xs.length < 64/\(∀ x∈xs,key x≠[]) /\
   (∀ (H':Hp) (x:V),Same H1 H'->x∈xs->∀ Q':VK,(∀ (t:Addr) (H'':Hp),Same H' H''->H'' t=some (.tup ((key x).map V.int))->Q' (.ref t) H'')->sp [x] H' Q' E) /\
   ∀ (p:Addr) (ys:List V) (H':Hp),Same H1 H'->H' p=some (.lst ys)->ys.Perm xs->ys.Pairwise (fun a b=>lx (key b) (key a)=false)->Q (.ref p) H'
  | _=>False) I h) fun us s1 ⟨vs,H1,I1,r1,q0⟩=>?_) (by rw [hs]; rfl) (by rw [hs]; rfl)
 obtain ⟨x,rfl,l,xs,key,rfl,h1,h2,h3,h4,q⟩:∃ x,vs=[x]/\∃ (l:Addr) (xs:List V) (key:V->List Int),x=.ref l/\SqT X.K H1 l xs/\xs.length < 64/\(∀ x∈xs,key x≠[]) /\
   (∀ (H':Hp) (x:V),Same H1 H'->x∈xs->∀ Q':VK,(∀ (t:Addr) (H'':Hp),Same H' H''->H'' t=some (.tup ((key x).map V.int))->Q' (.ref t) H'')->sp [x] H' Q' E) /\
   ∀ (p:Addr) (ys:List V) (H':Hp),Same H1 H'->H' p=some (.lst ys)->ys.Perm xs->ys.Pairwise (fun a b=>lx (key b) (key a)=false)->Q (.ref p) H':=by
  match vs,q0 with
  | [x],q0=>exact ⟨x,rfl,q0⟩
 obtain ⟨u,rfl,ru⟩:=jj r1
 cases ru
 refine kws_cons (ji I1 hg hm (kws_nil ?_) hdb)
 exact aFa key F hr hb I1 h1 h2 h3 h4 q
theorem aHI {a:Expr} {ta:TE} {g:Str} {p p2 kp pos:Pos} {E:XK} (G:Def X.prog X.w X.K X.mg X.base CX0 k g sp) (hr:Room (k + 2) X.A) (hms:X.mg "sorted"=none) (ha:PE X a ta)
  (hgs:Gl X "sorted":=by rfl) (hg:Gl X g:=by rfl) (hdb:(g == ("__debug__":Str))=false:=by decide) (hs:AW [a] X.env=[(false,eval a X.env)]:=by rfl) :
  PE X (.Call (.Name "sorted" p) [a] [⟨some "key",.Name g p2,kp⟩] pos) (aI9 X.K sp E ta):=by
 obtain ⟨f,fd,ps,F,b,c,_⟩:=G.ex
 exact aHH F b c hr hms ha hgs hg hdb hs
end
noncomputable def XAt (h:Heap) (e:Addr) (cls:Value) (dx:Option Addr) (tb:Value):Prop:=∃ oe vs,h.get? e=some oe/\oe.cls=cls/\oe.dict=dx/\oe.data=.fields vs/\vs[1]?=some tb
noncomputable def TbAt (h:Heap) (T:Addr) (fl:Value):Prop:=∃ oT ts,h.get? T=some oT/\oT.data=.fields ts/\ts[3]?=some fl
section
variable {M:Ky} {A:AY} {E:Value->Ad->Prop} {s:Ad}
theorem aBM {h base:Heap} {l:List Env} (hl:h.FunFrames base l) {b:Addr} (hb:b∈frs l) {o:Obj} (ho:h.get? b=some o) (vs:Array Value):o.data≠.fields vs:=by
 obtain ⟨_,o2,h2,hn⟩:=hl.mem hb
 rw [ho] at h2
 cases h2
 exact hn vs
theorem aFb {base:Heap} {env:Env} {outer:List Env} {L e:Addr} {oe:Obj} {vs:Array Value} {hd:Value} {hn:Bool} {Q:Unit->Ad->Prop} (hfr:A.frames=some (env :: outer)) (hl:s.heap.FunFrames base (env :: outer)) (hf:env.frame=some L)
  (he:s.heap.get? e=some oe) (hdat:oe.data=.fields vs) (hsz:1 < vs.size)
  (h:∀ h' T,(∀ b o,s.heap.get? b=some o->b ∉ frs (env :: outer)->b≠e->h'.get? b=some o)->(∀ b o,s.heap.get? b=some o->b≠e->∃ sl,h'.get? b=some { o with slots:=sl })->s.heap.objs.size<=T->T≠e->XAt h' e oe.cls oe.dict (.ref T)->TbAt h' T (Dr L) ->
   Q () { s with heap:=h' }) :
  Ar M A (frameOf env >>= fun a=>entryPlaceOf L hn >>= fun pl=>GS hd a .none (Dr L) .none pl >>= fun b=>setField (.ref e) 1 b) Q E s:=by
 have ne:e ∉ frs (env :: outer):=fun z=>aBM hl z he vs hdat
 refine Aa (wpAny_frameOf_fun hfr hl hf fun h1 so=>Aa (wpAny_entryPlaceOf fun pl isP=>?_))
 unfold GS Nm
 refine Aa (Bd ?_ (isP.sizeOk5 _ _ _ _ _))
 generalize hts:([hd,.ref L,.none,Dr L,.none]++(if pl.isEmpty then Fg 6 BY else pl)).toArray=ts
 have h3:ts[3]?=some (Dr L):=by rw [<- hts]; simp
 have ge:h1.get? e=some oe:=(so.2.1 e ne).trans he
 have lt:e < h1.objs.size:=Ap ge
 refine CG (Ac _ ge) hdat hsz ?_
 refine h _ h1.objs.size (fun b o hb nb nbe=>?_) (fun b o hb nbe=>?_) (Fz so.1.symm) (Cd lt) ?_ ?_
 ·rw [AF _ _ (BT nbe)]
  exact Ac _ ((so.2.1 b nb).trans hb)
 ·obtain ⟨sl,q⟩:=so.2.2 b o hb
  exact ⟨sl,by rw [AF _ _ (BT nbe)]; exact Ac _ q⟩
 ·have dm:=Bv hdat (·.setIfInBounds 1 (Value.ref h1.objs.size))
  refine ⟨_,_,AQ _ (Ac _ ge) (Cf dm),DK _ _,?_,dm,by simp [hsz]⟩
  obtain ⟨c,d,dt,sl⟩:=oe
  cases dt <;> first | rfl | cases hdat
 ·exact ⟨_,ts,by rw [AF _ _ (AC lt)]; exact Ag _ rfl,rfl,h3⟩
end
structure Chg (fs ch:List Addr) (h h':Heap):Prop where
 keep:∀ b o,h.get? b=some o->b ∉ fs->b ∉ ch->h'.get? b=some o
 slot:∀ b o,h.get? b=some o->b ∉ ch->∃ sl,h'.get? b=some { o with slots:=sl }
structure Own (X:Cx) (H:Hp) (b:Addr):Prop where
 free:H b=none
 new:X.s₀.heap.objs.size<=b
 loc:b≠X.env.locals
 cel:∀ x c,X.env.cells.lookup x=some c->c≠b
 pin:∀ p∈X.pn,p.1≠b
section
variable {X:Cx} {σ:St} {H:Hp} {s:Ad}
theorem Inv.chg {ch:List Addr} {h':Heap} (I:Inv X [] σ H s) (c:Chg (frs X.stack) ch s.heap h') (hc:∀ b∈ch,Own X H b):Inv X [] σ H { s with heap:=h' }:=by
 refine I.call (g':=s.gens) (t':=s.toks) (d':=s.drawn) (ch:=ch) (H':=H) ⟨fun b o e _ nf nc=>c.keep b o e nf nc,fun b o e _ _ nc=>c.slot b o e nc,fun _ _ _ n _=>n,fun b o e nc=>let ⟨sl,q⟩:=c.slot b o e nc; ⟨_,q⟩,fun _ _ e=>e,fun _ _ _ e=>e,fun b ps e=>⟨#[],by rw [e]; simp⟩⟩ (fun b u e=>?_) I.bare fun b hb=>⟨.inr (hc b hb).new,(hc b hb).loc,(hc b hb).cel,fun p hp=>(hc b hb).pin p (by simpa using hp)⟩
 refine (I.hok b u e).stay (fun c' v hh q=>c.keep c' v q (fun z=>?_) fun z=>?_) (fun _ q=>q) fun _ _ q=>q
 ·have:=I.stkFree c' z
  rcases hh with rfl | hh
  ·rw [this] at e; cases e
  ·rw [this] at hh; cases hh
 ·have:=(hc c' z).free
  rcases hh with rfl | hh
  ·rw [this] at e; cases e
  ·rw [this] at hh; cases hh
theorem Inv.own_new (I:Inv X [] σ H s) {b:Addr} (hb:s.heap.objs.size<=b):Own X H b where
 free:=I.hok.fresh hb
 new:=Ay I.sz hb
 loc:=Cd (Aw I.lt hb)
 cel:=fun x c e z=>by
  obtain ⟨v,q⟩:=I.cell x c e
  exact absurd (Aw q.lt (by rw [z]; exact hb)) (BC _)
 pin:=fun p hp z=>absurd (Aw (Ap (I.pin p (by simpa using hp)).1) (by rw [z]; exact hb)) (BC _)
end
noncomputable abbrev XS:=Value->Option Addr->St->Hp->Prop
noncomputable def FlOk (mk:Option Bool) (fl:Value) (L:Addr):Prop:=match mk with
 | none=>fl=.none\/fl=Dr L
 | some true=>fl=Dr L
 | some false=>fl=.none
theorem FlOk.any {mk:Option Bool} {fl:Value} {L:Addr} (h:FlOk mk fl L):fl=.none\/fl=Dr L:=by
 match mk,h with
 | none,h=>exact h
 | some true,h=>exact .inr h
 | some false,h=>exact .inl h
noncomputable def XBe (X:Cx) (E:XS) (tb:Bool) (mk:Option Bool) (ev:Value) (s:Ad):Prop:=∃ e cls dx σ H,ev=.ref e/\Inv X [] σ H s/\Own X H e /\
 ((tb=false/\XAt s.heap e cls dx .none)\/∃ T fl,XAt s.heap e cls dx (.ref T)/\Own X H T/\T≠e/\TbAt s.heap T fl/\FlOk mk fl X.env.locals)/\E cls dx σ H
noncomputable abbrev XIn (X:Cx) (E:XS):Value->Ad->Prop:=XBe X E false none
section
variable {X:Cx} {E:XS} {M:Ky} {A:AY} {F:Value->Ad->Prop} {s:Ad} {ev:Value} {tb:Bool} {mk:Option Bool}
theorem aIA {Q:Unit->Ad->Prop} (hA:A.frames=some X.stack) (hst:X.stack=X.env :: X.outer) (hf:X.env.frame=some X.env.locals) (h:XBe X E tb mk ev s) (hQ:∀ s',XBe X E true (some true) ev s'->Q () s'):Ar M A (FL ev X.env) Q F s:=by
 obtain ⟨e,cls,dx,σ,H,rfl,I,oe,ht,hE⟩:=h
 have fin:∀ {s1:Ad} {hd:Value} {ob:Obj} {vs:Array Value},Inv X [] σ H s1->s1.heap.get? e=some ob->ob.cls=cls->ob.dict=dx->ob.data=.fields vs->1 < vs.size ->
   Ar M A (frameOf X.env >>= fun a=>entryPlaceOf X.env.locals (hd != .none) >>= fun pl=>GS hd a .none (Dr X.env.locals) .none pl >>= fun b=>setField (.ref e) 1 b) Q F s1:=by
  intro s1 hd ob vs I1 ge hcls hdx hdat hsz
  have fr:=I1.stack
  rw [hst] at fr
  refine aFb (hA.trans (by rw [hst])) fr hf ge hdat hsz fun h' T k1 k2 hT ne xa ta=>?_
  rw [hcls,hdx] at xa
  have J:=I1.chg (ch:=[e]) (h':=h') ⟨fun b o q nf nc=>k1 b o q (by rw [<- hst]; exact nf) (by simpa using nc),fun b o q nc=>k2 b o q (by simpa using nc)⟩ fun b hb=>by
   have:b=e:=by simpa using hb
   subst this; exact oe
  exact hQ _ ⟨e,cls,dx,σ,H,rfl,J,oe,.inr ⟨T,_,xa,I1.own_new hT,ne,ta,rfl⟩,hE⟩
 unfold FL
 simp only [hf]
 rcases ht with ⟨_,ob,vs,ge,hcls,hdx,hdat,h1⟩ | ⟨T,fl,⟨ob,vs,ge,hcls,hdx,hdat,h1⟩,oT,ne,⟨ot,ts,gT,dT,h3⟩,hfl⟩
 ·refine Aa (Ci ge hdat h1 ?_)
  rw [if_neg (by decide)]
  exact fin I ge hcls hdx hdat (Dj.mp h1).1
 ·refine Aa (Ci ge hdat h1 ?_)
  rw [if_pos (show (Value.ref T != BY)=true by simp)]
  refine Aa (Ci gT dT h3 ?_)
  rcases hfl.any with rfl | rfl
  ·rw [if_neg (show ¬ ((BY == Dr X.env.locals)=true) by simp [Dr])]
   refine Aa (CG gT dT (Dj.mp h3).1 ?_)
   have J:=I.chg (ch:=[T]) (h':=s.heap.update T (Ez (·.setIfInBounds 3 BY))) ⟨fun b o q _ nc=>(AF _ _ (fun z=>nc (by simp [z]))).trans q,fun b o q nc=>⟨o.slots,(AF _ _ (fun z=>nc (by simp [z]))).trans q⟩⟩ fun b hb=>by
    have:b=T:=by simpa using hb
    subst this; exact oT
   exact fin J ((AF _ _ ne).trans ge) hcls hdx hdat (Dj.mp h1).1
  ·rw [if_pos (show (Dr X.env.locals == Dr X.env.locals)=true by first | exact beq_self_eq_true _ | simp)]
   exact Ab (hQ s ⟨e,cls,dx,σ,H,rfl,I,oe,.inr ⟨T,_,⟨ob,vs,ge,hcls,hdx,hdat,h1⟩,oT,ne,⟨ot,ts,gT,dT,h3⟩,rfl⟩,hE⟩)
theorem aBN {Q:Unit->Ad->Prop} {fr:Option Addr} (hfr:fr=none\/fr=some X.env.locals) (h:XBe X E true mk ev s) (hQ:∀ s',XBe X E true (some fr.isSome) ev s'->Q () s'):Ar M A (setFlight ev fr) Q F s:=by
 obtain ⟨e,cls,dx,σ,H,rfl,I,oe,ht,hE⟩:=h
 rcases ht with ⟨z,_⟩ | ⟨T,fl,⟨ob,vs,ge,hcls,hdx,hdat,h1⟩,oT,ne,⟨ot,ts,gT,dT,h3⟩,hfl⟩
 ·cases z
 ·have h3s:=(Dj.mp h3).1
  unfold setFlight
  refine Aa (Ci ge hdat h1 ?_)
  rw [if_pos (show (Value.ref T != BY)=true by simp)]
  refine CG gT dT h3s (hQ _ ?_)
  generalize hx:(fr.elim BY fun f=>Dr f)=x
  have J:=I.chg (ch:=[T]) (h':=s.heap.update T (Ez (·.setIfInBounds 3 x))) ⟨fun b o q _ nc=>(AF _ _ (fun z=>nc (by simp [z]))).trans q,fun b o q nc=>⟨o.slots,(AF _ _ (fun z=>nc (by simp [z]))).trans q⟩⟩ fun b hb=>by
   have:b=T:=by simpa using hb
   subst this; exact oT
  have dm:=Bv dT (·.setIfInBounds 3 x)
  refine ⟨e,cls,dx,σ,H,rfl,J,oe,.inr ⟨T,x,⟨ob,vs,(AF _ _ ne).trans ge,hcls,hdx,hdat,h1⟩,oT,ne,⟨_,_,AQ _ gT (Cf dm),dm,by simp [h3s]⟩,?_⟩,hE⟩
  rcases hfr with rfl | rfl
  ·exact hx.symm
  ·exact hx.symm
theorem XBe.frames (h:XBe X E tb mk ev s):X.A.frames=some X.stack:=by
 obtain ⟨_,_,_,_,_,_,I,_⟩:=h
 exact I.ok.frames
end
noncomputable def CXF (P:At) (w:AV):CXT:=fun l H s E ev s'=>∃ e cls dx H' T,ev=.ref e/\s'.os=s.os/\Ip s'.gens/\Un (frs l) [] H H' s.heap s'.heap/\HOk P w H' s'.heap/\H' e=none/\s.heap.objs.size<=e /\
 XAt s'.heap e cls dx (.ref T)/\T≠e/\H' T=none/\s.heap.objs.size<=T/\TbAt s'.heap T .none/\E cls dx H'
section
variable {X:Cx} {E:XS}
theorem aIt {EK:XK} {M:Ky} {A:AY} {F:Value->Ad->Prop} {s:Ad} {ev:Value} {tb:Bool} {mk:Option Bool} (hA:A.frames=some X.stack) (hst:X.stack=X.env :: X.outer) (hf:X.env.frame=some X.env.locals) (hex:X.ex=[])
  (h:XBe X (fun cls dx _ H=>EK cls dx H) tb mk ev s):Ar M A (leaving X.env ev) (fun _ s''=>CXF X.prog X.w X.outer X.H₀ X.s₀ EK ev s'') F s:=by
 unfold leaving
 refine Aa (aIA hA hst hf h fun s1 q=>aBN (.inl rfl) q fun s2 q2=>?_)
 obtain ⟨e,cls,dx,σ,H,rfl,I,oe,ht,hE⟩:=q2
 rcases ht with ⟨z,_⟩ | ⟨T,fl,xa,oT,ne,ta,hfl⟩
 ·cases z
 ·have e1:fl=.none:=hfl
  subst e1
  have b:=I.base
  rw [hex] at b
  exact ⟨e,cls,dx,H,T,rfl,I.os,I.bare,b,I.hok,oe.free,oe.new,xa,ne,oT.free,oT.new,ta,hE⟩
theorem aIB {EK:XK} {pins:List (Addr×Obj)} {σ:St} {H:Hp} {s s':Ad} {ev:Value} (I:Inv X pins σ H s) (h:CXF X.prog X.w X.stack H s EK ev s') (hE:∀ cls dx H',EK cls dx H'->E cls dx σ H'):XIn X E ev s':=by
 obtain ⟨e,cls,dx,H',T,rfl,os,ba,un,hok,he,le,xa,ne,hT,lT,ta,q⟩:=h
 have J:=I.call' os un hok ba (fun b z=>absurd z (by simp))
 have J0:Inv X [] σ H' s':=J.pins_of fun p hp=>absurd hp (by simp)
 have own:∀ b,H' b=none->s.heap.objs.size<=b->Own X H' b:=fun b hb lb=>⟨hb,Ay I.sz lb,Cd (Aw I.lt lb),fun x c e z=>by
  obtain ⟨v,q⟩:=I.cell x c e
  exact absurd (Aw q.lt (by rw [z]; exact lb)) (BC _),fun p hp z=>absurd (Aw (Ap (I.pin p (CL _ hp)).1) (by rw [z]; exact lb)) (BC _)⟩
 exact ⟨e,cls,dx,σ,H',rfl,J0,own e he le,.inr ⟨T,.none,xa,own T hT lT,ne,ta,.inl rfl⟩,hE _ _ _ q⟩
end
noncomputable abbrev Cx.raises (X:Cx) (E:XS):Cx:=X.wish (XIn X E)
theorem PSs.wish {X:Cx} {f:Value->Ad->Prop} {st:List Stmt} {t:TS} (h:PSs (X.wish f) st t) (hf:∀ e s,f e s->X.xe e s):PSs X st t:=fun pins s σ H D I hw =>
 AT (h pins s σ H D (I.wish _) hw) (fun _ _ q=>q.unwish) hf
section
variable {X:Cx} {E:XS} {k:Nat} {sp:Sp} {x:Str} {p pos:Pos} {e:Expr} {es:List Expr} {t:TA}
noncomputable def aKM (sp:Sp) (E:XS) (t:TA):TE:=fun σ H Q=>t σ H fun vs H1=>sp vs H1 Q fun cls dx H'=>E cls dx σ H'
theorem aIu (G:Def X.prog X.w X.K X.mg X.base (CXF X.prog X.w) k x sp) (hr:Room k X.A) (ha:PA (X.raises E) (e :: es) t) (hg:Gl (X.raises E) x:=by rfl) (hdb:(x == ("__debug__":Str))=false:=by decide)
  (he:AW (e :: es) X.env=(false,eval e X.env) :: AW es X.env:=by rfl) (hpl:(Fe pos (AW es X.env)).any (·.1)=false:=by rfl) :
  PE (X.raises E) (.Call (.Name x p) (e :: es) [] pos) (aKM sp E t):=by
 obtain ⟨f,fd,ps,F,b,c,d⟩:=G.ex
 intro pins s σ H Q I h
 refine Cb (ji I hg c (FI (h₀:=X.base) I.ok.mod.kin d
  (thn (ha pos pins s σ H _ I h) fun us s1 ⟨vs,H1,I1,r,q⟩=>⟨I1.kIn,?_⟩) he hpl) hdb)
 have hl:us.length=ps.length:=by rw [<- r.length]; exact F.len _ _ _ _ q
 have bd:=b s1 us I1.kIn (by simpa using hl)
 rw [AM] at bd
 refine Fx (Dh (F.run X.A X.stack s1 H1 ⟨us,[]⟩ us vs Q (fun cls dx H'=>E cls dx σ H') hr I1.unwish.env0 bd r q) fun r s' hq=>?_)
 cases r with
 | error ev=>exact aIB I1.unwish hq fun _ _ _ z=>z
 | ok fl =>
  cases fl with
  | ret u=>exact (I1.after hq:EP (X.raises E) pins σ Q u s')
  | _=>exact Dz hq
end
section
variable {P:At} {w:AV} {K:Af} {mg:Str->Option Value} {base:Heap}
theorem Fun.okX {x qual:Str} {st:Stmt} {f:Addr} {fd:Bu} {N ps:List Str} {k:Nat} {sp:Sp} (F:Fun K x qual st f fd) (S:FnScope N ps (zG st)) (len:∀ vs H Q E,sp vs H Q E->vs.length=ps.length)
  (hbody:∀ (cdv:Value) (A:AY) (outer:List Env) (s:Ad) (H:Hp) (vs:List V) (Q:VK) (E:XK),Room k (A.deeper (JW qual (zG st) s.heap.objs.size f cdv))->sp vs H Q E ->
   ∃ t,PSs ((cxOf (CXF P w) P w K mg base N qual (zG st) f cdv A outer s H E).raises fun cls dx _ H'=>E cls dx H') (zQ st) t/\t { nx:=fun _ H'=>Q .non H',rt:=Q } (aAp N vs) H):FnOk P w K mg base (CXF P w) (k + 1) f fd ps sp:=by
 obtain ⟨oc,od,kV,doc,pm,an,cdv,ct,osl,rfl,lk,hcd⟩:=F.ex
 refine aKE lk hcd S len fun A outer s H vs Q E hr hsp=>?_
 obtain ⟨t,ht,q⟩:=hbody cdv A outer s H vs Q E hr hsp
 exact ⟨t,ht.wish fun ev s' z=>aIt z.frames rfl rfl rfl z,q⟩
end
section
variable {X:Cx} {pins:List (Addr×Obj)} {σ:St} {H:Hp} {s:Ad}
noncomputable abbrev Cx.pinTo (X:Cx) (ps:List (Addr×Obj)):Cx:={ X with pn:=X.pn++ps }
noncomputable abbrev Cx.suite (X:Cx) (ev:Value) (ps:List (Addr×Obj)):Cx:={ X with pn:=X.pn++ps,A:=X.A.mark (some ev),calm:=false,xe:=fun _ _=>False }
theorem Inv.pinTo (I:Inv X pins σ H s):Inv (X.pinTo pins) [] σ H s:=by
 obtain ⟨ok,a1,a2,a3,a4,a5,a6,a7,a8,a9,a10⟩:=I
 exact ⟨⟨ok.mod,ok.kind,ok.glob,ok.blt,ok.above,ok.inj,ok.has,ok.cab,ok.hd,ok.frames,ok.stk,ok.exf,ok.bs,ok.bsz,ok.noex,ok.exfs,ok.funs,ok.frf⟩,a1,a2,a3,a4,a5,a6,a7,fun p hp=>a8 p (by simpa using hp),a9,a10⟩
theorem Inv.unpinTo (I:Inv (X.pinTo pins) [] σ H s):Inv X pins σ H s:=by
 obtain ⟨ok,a1,a2,a3,a4,a5,a6,a7,a8,a9,a10⟩:=I
 exact ⟨⟨ok.mod,ok.kind,ok.glob,ok.blt,ok.above,ok.inj,ok.has,ok.cab,ok.hd,ok.frames,ok.stk,ok.exf,ok.bs,ok.bsz,ok.noex,ok.exfs,ok.funs,ok.frf⟩,a1,a2,a3,a4,a5,a6,a7,fun p hp=>a8 p (by simpa using hp),a9,a10⟩
theorem Inv.insuite {ev:Value} {ps:List (Addr×Obj)} (I:Inv (X.pinTo pins) ps σ H s):Inv (X.suite ev pins) ps σ H s:=by
 obtain ⟨ok,a1,a2,a3,a4,a5,a6,a7,a8,a9,a10⟩:=I
 exact ⟨⟨ok.mod,ok.kind,ok.glob,ok.blt,ok.above,ok.inj,ok.has,ok.cab,(fun z=>by cases z),ok.frames,ok.stk,ok.exf,ok.bs,ok.bsz,ok.noex,ok.exfs,ok.funs,ok.frf⟩,a1,a2,a3,a4,a5,a6,a7,a8,a9,a10⟩
theorem Inv.outsuite {ev:Value} {ps:List (Addr×Obj)} (I:Inv (X.suite ev pins) ps σ H s) (h0:X.Ok):Inv (X.pinTo pins) ps σ H s:=by
 obtain ⟨ok,a1,a2,a3,a4,a5,a6,a7,a8,a9,a10⟩:=I
 exact ⟨⟨ok.mod,ok.kind,ok.glob,ok.blt,ok.above,ok.inj,ok.has,ok.cab,h0.hd,ok.frames,ok.stk,ok.exf,ok.bs,ok.bsz,ok.noex,ok.exfs,ok.funs,ok.frf⟩,a1,a2,a3,a4,a5,a6,a7,a8,a9,a10⟩
end
noncomputable def xO (fr:Bool) (cls:Value) (dx:Option Addr) (e:Addr):HO:=.ext fun h=>∃ oe vs,h.get? e=some oe/\oe.cls=cls/\oe.dict=dx/\oe.data=.fields vs/\(fr=true->∃ a0,vs=#[a0,.none,.none,.none,.bool false,.none])
theorem aKN {P:At} {w:AV} {H:Hp} {h:Heap} {fr:Bool} {cls:Value} {dx:Option Addr} {e:Addr} {oe:Obj} {vs:Array Value} (h1:h.get? e=some oe) (h2:oe.cls=cls) (h3:oe.dict=dx) (h4:oe.data=.fields vs)
  (h5:fr=true->∃ a0,vs=#[a0,.none,.none,.none,.bool false,.none]):ObjOk P w H h e (xO fr cls dx e):=⟨⟨oe,vs,h1,h2,h3,h4,h5⟩,⟨oe,h1⟩,fun _ _ ⟨o,vs,y1,y2⟩ k=>⟨o,vs,k o y1,y2⟩⟩
noncomputable def XCls (K:Af) (C:Addr) (bm:List Value):Prop:=bm.contains (.type "BaseException")=true/\∃ nm q N bs hdct sn sub ab col dd k0 k1 k2 k3 k5 newId,K.lookup C=some (GT nm q C N bs bm hdct sn sub ab col dd k0 k1 k2 k3 k5 newId)
section
variable {X:Cx} {pins:List (Addr×Obj)} {σ:St} {H:Hp} {s:Ad}
end
section
variable {M:Ky} {A:AY} {E:Value->Ad->Prop}
theorem aCv {h:Heap} {g:Array GE} {d:Nj} {t:Nat} {os:OsState} {e C W:Addr} {oe:Obj} {bm bw:List Value} {Q:Bool->Ad->Prop} {nm q nm' q':Str} {N N':Addr} {bs bs':List Value} {hdct hdct':Bool} {sn sn':List Str} {sub sub':List Value} {ab ab':Bool} {col col':Option Bool} {dd dd':Option Addr} {k0 k1 k2 k3 k5 l0 l1 l2 l3 l5:Option Value} {newId newId':String}
    (hC:h.get? C=some (GT nm q C N bs bm hdct sn sub ab col dd k0 k1 k2 k3 k5 newId)) (hW:h.get? W=some (GT nm' q' W N' bs' bw hdct' sn' sub' ab' col' dd' l0 l1 l2 l3 l5 newId'))
    (he:h.get? e=some oe) (hcls:oe.cls=.ref C) (hb:bw.contains (.type "BaseException")=true) (hm:(Value.ref C :: bm).contains (.ref W)=true) (hq:Q true ⟨h,g,d,t,os⟩):Ar M A (excMatches (.ref e) (.ref W)) Q E ⟨h,g,d,t,os⟩:=by
  have hwB:(Value.ref W :: bw).contains (.type "BaseException")=true:=by rw [Hq,hb,LJ]
  have nt:=tc_notTuple
  unfold excMatches
  repeat (first | (with_reducible refine DL he ?_; rw [hcls]) | with_reducible refine DL hW ?_
                | (with_reducible refine Fv hW ?_; rw [hwB]) | (with_reducible refine Fv hC ?_; rw [hm]) | wp_step)
  exact hq
end
section
variable {X:Cx} {i:Nat} {n x:Str} {C:Addr} {bw:List Value} {body suite:List Stmt} {b0:Stmt} {np hp pos:Pos} {tb:XS->TS} {ts:TS}
theorem SP.unpin {E:XS} {pins:List (Addr×Obj)} {D:Ends} {f:Flow} {s:Ad} (h:SP ((X.pinTo pins).raises E) [] D f s):SP X pins D f s:=by
 match f,h with
 | .next,⟨σ,H,I,q⟩=>exact ⟨σ,H,I.unwish.unpinTo,q⟩
 | .brk,⟨σ,H,I,q⟩=>exact ⟨σ,H,I.unwish.unpinTo,q⟩
 | .cont,⟨σ,H,I,q⟩=>exact ⟨σ,H,I.unwish.unpinTo,q⟩
 | .ret u,⟨v,σ,H,I,r,q⟩=>exact ⟨v,σ,H,I.unwish.unpinTo,r,q⟩
end
noncomputable abbrev vMro:List Value:=[.type "ValueError",.type "Exception",.type "BaseException",.type "object"]
theorem aBO {K:Af} {bB:List Value} {v:Value} (hv:bB.contains v=true):∀ {l:List Value},ED K bB l=true->l.contains v=true
 | [],e=>by
  have z:bB=[]:=beq_iff_eq.mp e
  rw [z] at hv
  exact hv
 | u :: r,e=>by
  unfold ED at e
  rcases Ks.mp e with q | q
  ·rw [beq_iff_eq.mp q]; exact hv
  ·split at q
   ·split at q
    ·simp only [AD] at q
     rw [Hq,aBO hv q.2,LJ]
    ·cases q
   ·cases q
theorem aC9 {K:Af} (self:Value):∀ {l:List Value},ED K vMro l=true->refuseLoop self "__setattr__" l=pure ()
 | [],e=>by cases beq_iff_eq.mp e
 | u :: r,e=>by
  unfold ED at e
  rcases Ks.mp e with q | q
  ·rw [beq_iff_eq.mp q]; exact PySem.F.store_ValueError.passes self
  ·split at q
   ·split at q
    ·simp only [AD] at q
     rw [refuseLoop_ref]
     exact aC9 self q.2
    ·cases q
   ·cases q
structure XC (K:Af) (C:Addr) (bm:List Value):Prop where
 lk:∃ nm q N bs sn sub ab col dd k0 k1 k2 k3 k5,K.lookup C=some (GT nm q C N bs bm true sn sub ab col dd k0 k1 k2 k3 k5 "ValueError.__new__")
 tl:ED K vMro bm=true
 kp:AI K (.ref C)=true
 ga:BK K (.ref C) "__getattribute__"=some (some (.builtin "BaseException.__getattribute__"))
 gh:BK K (.ref C) "__getattr__"=some none
 gc:BK K (.ref C) "__class__"=some (some (.builtin "object.__class__"))
 sa:BK K (.ref C) "__setattr__"=some (some (.builtin "object.__setattr__"))
section
variable {K:Af} {C W:Addr} {bm bw:List Value}
theorem XC.cls (c:XC K C bm):∃ cd,MV K C=some cd/\cd.mro=.ref C :: bm/\cd.hasDict=true:=by
 obtain ⟨nm,q,N,bs,sn,sub,ab,col,dd,k0,k1,k2,k3,k5,lk⟩:=c.lk
 exact ⟨_,by unfold MV; rw [lk],rfl,rfl⟩
theorem XC.mro (c:XC K C bm) (v:Value):KC K C v=some ((Value.ref C :: bm).contains v):=by
 obtain ⟨cd,h1,h2,_⟩:=c.cls
 unfold KC
 rw [h1,Option.bind_some,h2,if_neg (by simp)]
theorem XC.has (c:XC K C bm) {v:Value} (hv:vMro.contains v=true):(Value.ref C :: bm).contains v=true:=by rw [Hq,aBO hv c.tl,LJ]
theorem XC.xcls (c:XC K C bm):XCls K C bm:=by
 obtain ⟨nm,q,N,bs,sn,sub,ab,col,dd,k0,k1,k2,k3,k5,lk⟩:=c.lk
 exact ⟨aBO (by decide) c.tl,_,_,_,_,_,_,_,_,_,_,_,_,_,_,_,_,lk⟩
theorem XC.tail (c:XC K C bm) {h:Heap} (X:K.In h):OwnTail h vMro bm:=PySem.W.tail_of_in X c.tl
end
noncomputable abbrev xTup (us:List Value):Obj:={ cls:=.type "tuple",data:=.seq us.toArray }
noncomputable abbrev xNew (C t:Addr):Obj:={ cls:=.ref C,data:=.fields #[.ref t,.none,.none,.none,.bool false,.none] }
noncomputable abbrev xHp (h:Heap) (C:Addr) (us:List Value):Heap:=(h.push (xTup us)).push (xNew C h.objs.size)
section
variable {prog:At} {w:AV} {A:AY} {E:Value->Ad->Prop} {h:Heap} {g:Array GE} {d:Nj} {t:Nat} {os:OsState} {K:Af} {C:Addr} {bm us:List Value}
theorem aAD {b:Addr} {o:Obj} (e:h.get? b=some o):(xHp h C us).get? b=some o:=Ac _ (Ac _ e)
theorem aFc:(xHp h C us).get? (h.objs.size + 1)=some (xNew C h.objs.size):=by
 have:=Ag (h.push (xTup us)) (o:=xNew C h.objs.size) rfl
 rwa [Bo] at this
theorem aKO {init:Value} {Q:Fin->Ad->Prop} (X:K.In h) (c:XC K C bm) (hu:us.length<=sizeLine) (hi:FQ (AB prog w) h (Lp (.ref C) "__init__") (some init))
    (hb:∀ self,FQ (AB prog w) h (bindSpecial init self) (init,[self]))
    (go:Ar (AB prog w) A (call init (.ref (h.objs.size + 1) :: us)) (fun r s'=>r=.none/\Q (.done (.ret (.ref (h.objs.size + 1)))) s') E ⟨xHp h C us,g,d,t,os⟩) :
    Ar (AB prog w) A (Builtin.«type.__call__» ⟨.ref C :: us,[]⟩) Q E ⟨h,g,d,t,os⟩:=by
  have F:=PySem.F.excBase_ValueError
  have T:=c.tail X
  obtain ⟨nm,qn,N,bs,sn,sub,ab,col,dd,k0,k1,k2,k3,k5,lk⟩:=c.lk
  have cC:=X _ _ lk
  repeat (first
    | with_reducible refine DL cC ?_
    | with_reducible refine wpAny_madeBy_exc cC ?_
    | wp_step)
  refine codeAny_call_builtin_code (DB _ F.quiet) (wpAny_check_new_subT F T cC ?_)
  refine codeAny_exc_new_subT F T cC ?_ hu
  show Ar _ _ _ _ _ _
  have c2:=aAD (C:=C) (us:=us) cC
  have n2:(xHp h C us).get? (h.objs.size + 1)=some (xNew C h.objs.size):=aFc
  have self:(Value.ref C :: bm).contains (.ref C)=true:=by simp
  unfold ML
  repeat (first
    | with_reducible refine DL n2 ?_
    | (with_reducible refine Fv c2 ?_; rw [self])
    | wp_step)
  show Ar _ _ (Lp (.ref C) _) _ _ _
  refine (hi.keeps fun _ _=>aAD).at ?_
  refine Bw (Aa (((hb _).keeps fun _ _=>aAD).at ?_))
  refine Aa (AT go (fun r s' z=>?_) fun _ _ z=>z)
  obtain ⟨rfl,z⟩:=z
  wp_walk
  exact z
theorem aKP {init:Value} {Q:Value->Ad->Prop} (X:K.In h) (c:XC K C bm) (hu:us.length<=sizeLine) (hi:FQ (AB prog w) h (Lp (.ref C) "__init__") (some init))
    (hb:∀ self,FQ (AB prog w) h (bindSpecial init self) (init,[self]))
    (go:Ar (AB prog w) (A.under (.builtin "type.__call__" ⟨.ref C :: us,[]⟩)) (call init (.ref (h.objs.size + 1) :: us)) (fun r s'=>r=.none/\Q (.ref (h.objs.size + 1)) s') E ⟨xHp h C us,g,d,t,os⟩) :
    Ar (AB prog w) A (call (.ref C) us) Q E ⟨h,g,d,t,os⟩:=by
  obtain ⟨nm,qn,N,bs,sn,sub,ab,col,dd,k0,k1,k2,k3,k5,lk⟩:=c.lk
  have cC:=X _ _ lk
  have l1:=tc_lookup
  have l2:=tc_bind (.ref C)
  have ty:(⟨h,g,d,t,os⟩:Ad).TypeIs (.ref C) "type":=⟨_,cC,rfl⟩
  refine Fx (DS ?_)
  show Ar _ _ (callAny (.ref C) _) _ _ _
  repeat (any_goals (first
    | assumption
    | with_reducible refine DL cC ?_
    | wp_step))
  refine ⟨rfl,?_⟩
  exact codeAny_call_builtin_at (DB _ (by decide +kernel)) entry_typeCall (wpAny_check_type_call_sub cC (aKO X c hu hi hb go))
end
section
variable {prog:At} {w:AV} {A:AY} {E:Value->Ad->Prop} {s:Ad} {K:Af} {C x:Addr} {bm:List Value} {ox:Obj} {od:Option Obj} {name:Str}
theorem aLe {v:Value} {vs:Array Value} {o:Obj} {Q:Unit->Ad->Prop} (X:K.In s.heap) (c:XC K C bm) (ha:BK K (.ref C) name=some none) (hx:s.heap.get? x=some o) (hc:o.cls=.ref C) (hd:o.dict=none) (hv:o.data=.fields vs)
  (go:∀ h' tk,h'.get? x=some { o with dict:=some s.heap.objs.size }->h'.Ns1 s.heap.objs.size (fun y=>if y=name then some v else none)->(∀ b ob,b≠x->s.heap.get? b=some ob->h'.get? b=some ob)->Q () { s with heap:=h',toks:=tk }) :
  Ar (AB prog w) A (setAttr (.ref x) name v) Q E s:=by
 have I:Mx s.heap x o C none:=⟨hx,hc,by unfold PySem.W.notCls; rw [hv],by rw [hd]; trivial⟩
 have SF:=PySem.F.store_object
 obtain ⟨cd,h1,h2,h3⟩:=c.cls
 have l0:=I.type (M:=AB prog w)
 have l1:=JO (M:=AB prog w) X ha
 have l2:FQ (AB prog w) s.heap (mroOf (.ref C)) cd.mro:=(Kt X h1).andThen .now
 have l3:=Kt (M:=AB prog w) X h1
 have lb:FQ (AB prog w) s.heap (ML (.ref x) (.type "object")) true:=l0.andThen (PySem.W.looks_mroIn X (by rw [c.mro,c.has (by decide)]))
 refine PySem.W.set_plain X I c.sa ?_
 refine Fc SF.slot.plain SF.entry (@PySem.W.check_slot (AB prog w) _ _ { s with toks:=s.toks + 1 } "object.__setattr__" "object" "__setattr__" (.ref x) [.str name s.toks,v] [] _ SF.kind SF.split lb (SF.args (.ref x) (.str name s.toks) v) ?_)
 rw [PySem.W.osa_eq,refuse_eq]
 obtain ⟨hh,g,d,t,os⟩:=s
 refine Aa (Aa (l0.at (Aa (l2.at ?_))))
 rw [h2,refuseLoop_ref,aC9 _ c.tl]
 refine Ab (Aa (l0.at (Aa (l1.at (Aa (Ab ?_))))))
 obtain ⟨oc,odi,oda,osl⟩:=o
 dsimp only at hc hd hv hx go
 subst hc hd hv
 show Ar _ _ (FR _ _ _ _ _ _) _ _ _
 unfold FR
 refine Aa (Ab (Aa ?_))
 show Ar _ _ (instanceDict x true) _ _ _
 unfold instanceDict
 refine Aa (wpAny_loadPart hx ?_)
 dsimp only
 refine Aa (l3.at ?_)
 rw [h3]
 have nsz:x≠hh.objs.size:=AC (Ap hx)
 have x1:=Ac PySem.W.emptyDict hx
 refine Aa (wpAny_alloc' (Aa (wpAny_update' x1 ?_)))
 refine Ab ?_
 generalize hg:((hh.push PySem.W.emptyDict).update x fun o=>{ o with dict:=some hh.objs.size })=h2
 have xd:h2.get? x=some ⟨.ref C,some hh.objs.size,.fields vs,osl⟩:=by rw [<- hg]; exact AQ _ x1 rfl
 have dd:h2.get? hh.objs.size=some PySem.W.emptyDict:=by rw [<- hg]; exact (Ku _ _ _ _ nsz.symm).trans (Heap.get?_push_at rfl rfl)
 have kp:∀ b ob,b≠x->hh.get? b=some ob->h2.get? b=some ob:=fun b ob nb q=>by rw [<- hg]; exact (Ku _ _ _ _ nb).trans (Ac _ q)
 have nd:h2.Ns hh.objs.size (fun _=>none):=⟨_,#[],_,dd,rfl,fun e he=>absurd he (by simp),fun _=>rfl⟩
 show Ar _ _ (Gn hh.objs.size _ name v) _ _ _
 unfold Gn Builtin.ObjectAttr.newKeyGuard
 refine Aa (Ab (Aa (wpAny_nsSet1 (Heap.Ns1.of_empty nd) fun h' hn sb=>?_)))
 obtain ⟨oD,es,ep,g1,g2,g3⟩:=hn.count (Within.cons name v Within.nil)
 refine Aa (wpAny_lookBehind g1 (by rw [g2]; exact pastItsLine_dict (Ay g3 (by rw [AJ,EO,Bb]; lia))) ?_)
 refine Ab ?_
 exact go h' _ ((sb.2 x nsz).trans xd) hn fun b ob nb q=>(sb.2 b (AC (Ap q))).trans (kp b ob nb q)
end
section
variable {X:Cx} {a c o e value:Expr} {ta tc tv:TE} {p pos pos':Pos} {f:Str}
noncomputable def aLf (K:Af) (ta tv:TE) (f:Str):TS:=fun D σ H=>tv σ H fun y H1=>ta σ H1 fun x H2=>∃ a C bm fr,x=.ref a/\XC K C bm/\H2 a=some (xO fr (.ref C) none a)/\aF5 K C f /\
 ∀ dx,H2 dx=none->dx≠a->D.nx σ (upd (upd H2 a (xO fr (.ref C) (some dx) a)) dx (.xd [(f,y)]))
theorem aIv (ha:PE X o ta) (hv:PE X value tv) (hs:GK value (some (.Attribute o f pos')) pos.line X.env=pure false):PS X (.Assign [.Attribute o f pos'] value pos) (aLf X.K ta tv f):=by
 intro pins s σ H D I h
 refine plainObj_wpAny_Assign_Attribute (thn (hv pins s σ H _ I h) fun u s1 ⟨y,H1,I1,ry,q⟩=>thn (ha pins s1 σ H1 _ I1 q) fun ov s2 ⟨x,H2,I2,rx,a,C,bm,fr,ex,c,hA,n,q2⟩=>?_) hs
 subst ex
 obtain rfl:ov=Value.ref a:=rx
 obtain ⟨⟨oe,vs,g1,g2,g3,g4,g5⟩,_⟩:=(show ObjOk X.prog X.w H2 s2.heap a (xO fr (.ref C) none a) from I2.hok a _ hA)
 have fr0:H2 s2.heap.objs.size=none:=I2.hok.fresh (Ak _)
 have na:s2.heap.objs.size≠a:=BT (AC (Ap g1))
 refine aLe I2.kIn c n g1 g2 g3 g4 fun h' tk k1 k2 k3=>⟨σ,_,?_,q2 _ fr0 na⟩
 have old:∀ b ob,H2 b=none->s2.heap.get? b=some ob->h'.get? b=some ob:=fun b ob hb e=>k3 b ob (fun z=>by rw [z,hA] at hb; cases hb) e
 have up:∀ b,b≠a->b≠s2.heap.objs.size->upd (upd H2 a (xO fr (.ref C) (some s2.heap.objs.size) a)) s2.heap.objs.size (.xd [(f,y)]) b=H2 b:=fun b n1 n2=>by rw [zH n2,zH n1]
 have lt:∀ b ob,s2.heap.get? b=some ob->b≠s2.heap.objs.size:=fun b ob e=>AC (Ap e)
 refine I2.un (t':=tk) ⟨fun b ob e n _ _=>old b ob n e,fun b ob e n _ _=>⟨ob.slots,old b ob n e⟩,fun b ob e n _=>?_,fun b ob e _=>?_,fun b xs e=>?_,fun b ob u e=>?_,fun b ps e=>⟨#[],?_⟩⟩ fun b u e=>?_
 ·rw [up b (fun z=>by rw [z,hA] at n; cases n) (lt b ob e)]; exact n
 ·by_cases hb:b=a
  ·subst hb; exact ⟨_,k1⟩
  ·exact ⟨ob,k3 b ob hb e⟩
 ·rw [up b (fun z=>by rw [z,hA] at e; cases e) (fun z=>by rw [z,fr0] at e; cases e)]; exact e
 ·rw [up b (fun z=>by rw [z,hA] at e; cases e) (fun z=>by rw [z,fr0] at e; cases e)]; exact e
 ·rw [up b (fun z=>by rw [z,hA] at e; cases e) (fun z=>by rw [z,fr0] at e; cases e),e]; simp
 ·by_cases hd:b=s2.heap.objs.size
  ·subst hd
   rw [zC] at e
   cases e
   refine ⟨_,k2,fun g=>?_⟩
   by_cases z:g=f
   ·subst z; simp [NA,RelO]; exact ry
   ·have z2:(g == f)=false:=beq_eq_false_iff_ne.mpr z
    simp [NA,z,z2,RelO]
  ·by_cases hb:b=a
   ·subst hb
    rw [zH hd,zC] at e
    cases e
    exact aKN k1 g2 rfl g4 g5
   ·rw [up b hb hd] at e
    refine (I2.hok b u e).stay (fun x ox hh r=>k3 x ox (fun z=>?_) r) (fun x r=>?_) fun x xs r=>?_
    ·subst z
     rcases hh with hh | hh
     ·exact hb hh.symm
     ·rw [hA] at hh; cases hh
    ·rw [up x (fun z=>by rw [z,hA] at r; cases r) (fun z=>by rw [z,fr0] at r; cases r)]; exact r
    ·rw [up x (fun z=>by rw [z,hA] at r; cases r) (fun z=>by rw [z,fr0] at r; cases r)]; exact r
end
noncomputable def del (H:Hp) (e:Addr):Hp:=fun b=>if b=e then none else H b
theorem aAz {H:Hp} {e b:Addr} (h:b≠e):del H e b=H b:=if_neg h
theorem ql {H:Hp} {e:Addr}:del H e e=none:=if_pos rfl
theorem aIw {H:Hp} {e:Addr} {o:HO} (h:H e=none):del (upd H e o) e=H:=by
 funext b
 by_cases q:b=e
 ·subst q; rw [ql,h]
 ·rw [aAz q,zH q]
theorem aET {H:Hp} {e d:Addr} {o:HO} (h:d≠e):del (upd H d o) e=upd (del H e) d o:=by
 funext b
 by_cases q:b=e
 ·subst q; rw [ql,zH (BT h),ql]
 ·rw [aAz q]
  by_cases z:b=d
  ·subst z; rw [zC,zC]
  ·rw [zH z,zH z,aAz q]
section
variable {X:Cx} {pins:List (Addr×Obj)} {σ:St} {H:Hp} {s:Ad}
theorem Inv.untrack {e:Addr} {φ:Heap->Prop} (I:Inv X pins σ H s) (hx:H e=some (.ext φ)):Inv X pins σ (del H e) s:=by
 have nn:∀ b,H b=none->del H e b=none:=fun b n=>by
  by_cases q:b=e
  ·rw [q]; exact ql
  ·rw [aAz q]; exact n
 have ne:∀ {b:Addr} {o:HO},H b=some o->(∀ ψ,o≠.ext ψ)->del H e b=some o:=fun {b o} q n=>by
  rw [aAz (fun z=>by rw [z,hx] at q; exact n φ (Ck q).symm)]; exact q
 refine ⟨I.ok,I.os,I.bare,⟨I.base.keep,I.base.slot,fun b o q n m=>nn b (I.base.free b o q n m),I.base.there,fun b xs q=>ne (I.base.tups b xs q) fun _ z=>(by cases z),fun b o u q=>ne (I.base.frzs b o u q) fun _ z=>(by cases z),fun b ps q=>?_⟩,I.loc,I.cell,nn _ I.free,fun y c q=>nn _ (I.freeC y c q),fun p hp=>?_,fun b u q=>?_,I.len⟩
 ·obtain ⟨more,z⟩:=I.base.tbls b ps q
  exact ⟨more,ne z fun _ z=>by cases z⟩
 ·obtain ⟨a,b,c⟩:=I.pin p hp
  exact ⟨a,nn _ b,c⟩
 ·by_cases z:b=e
  ·rw [z,ql] at q; cases q
  ·rw [aAz z] at q
   exact (I.hok b u q).stay (fun _ _ _ r=>r) (fun c r=>ne r fun _ z=>by cases z) fun c xs r=>ne r fun _ z=>by cases z
end
section
variable {X:Cx} {C f:Addr} {bm:List Value} {k:Nat} {fd:Bu} {ps:List Str} {sp:Sp} {x:Str} {p pos rpos:Pos} {e:Expr} {es:List Expr} {t:TA}
structure XMk (P:At) (w:AV) (K:Af) (mg:Str->Option Value) (base:Heap) (C:Addr) (k:Nat) (sp:Sp):Prop where
 ok:∃ f fd ps,BK K (.ref C) "__init__"=some (some (.ref f))/\Mz K (.ref f)=some (.type "function")/\FnOk P w K mg base CX0 k f fd ps sp/\Binds K fd ps []
theorem Inv.xborn {pins:List (Addr×Obj)} {σ:St} {H:Hp} {s:Ad} {us:List Value} (I:Inv X pins σ H s):Inv X pins σ (upd H (s.heap.objs.size + 1) (xO true (.ref C) none (s.heap.objs.size + 1))) { s with heap:=xHp s.heap C us } :=
 I.laid (a:=s.heap.objs.size + 1) (o:=xO true (.ref C) none (s.heap.objs.size + 1)) (t':=s.toks) (fun _ _=>aAD) (CC _) (aKN aFc rfl rfl rfl fun _=>⟨_,rfl⟩)
theorem aLg {pins:List (Addr×Obj)} {σ:St} {H:Hp} {s:Ad} {Q:Addr->Hp->Prop} {us:List Value} {vs:List V} (c:XC X.K C bm) (M:XMk X.prog X.w X.K X.mg X.base C k sp) (hr:Room (k + 1) X.A) (I:Inv X pins σ H s) (r:Vals vs us) (hu:vs.length<=sizeLine)
  (h:∀ e,H e=none->sp (.ref e :: vs) (upd H e (xO true (.ref C) none e)) (fun v H2=>v=.non/\Q e H2) E0) :
  Ar (AB X.prog X.w) X.A (call (.ref C) us) (fun u s'=>∃ e H2,u=.ref e/\s.heap.objs.size<=e/\Inv X pins σ H2 s'/\Q e H2) X.xe s:=by
 obtain ⟨f,fd,ps,hi,hf,F,hb⟩:=M.ok
 have hq:=h (s.heap.objs.size + 1) (I.hok.fresh (CC _))
 have I2:=Inv.xborn (C:=C) (us:=us) I
 have r2:Vals (V.ref (s.heap.objs.size + 1) :: vs) (Value.ref (s.heap.objs.size + 1) :: us):=.cons rfl r
 have hl:(Value.ref (s.heap.objs.size + 1) :: us++[]).length=ps.length:=by
  rw [AM,<- r2.length]
  exact F.len _ _ _ _ hq
 have bd:=hb _ (Value.ref (s.heap.objs.size + 1) :: us) I2.kIn hl
 rw [AM] at bd
 have run:=F.run _ X.stack _ _ ⟨Value.ref (s.heap.objs.size + 1) :: us,[]⟩ (Value.ref (s.heap.objs.size + 1) :: us) _ _ E0 (hr.make C us []) (I2.env0.make C us []) bd r2 hq
 have K0:=I.kIn
 have sz:s.heap.objs.size<=s.heap.objs.size + 1:=CC _
 obtain ⟨hh,g,d,tk,os⟩:=s
 refine aKP K0 c (by rw [<- r.length]; exact hu) (JO K0 hi) (fun self=>PySem.W.bind_fn K0 self hf) ?_
 refine Fx (Dh run fun rr s' z=>?_)
 cases rr with
 | error ev=>exact z.elim
 | ok fl =>
  cases fl with
  | ret u =>
   obtain ⟨v,H',I3,rv,ev,q3⟩:=I2.after z
   subst ev
   exact ⟨rv,_,H',rfl,sz,I3,q3⟩
  | _=>exact z.elim
theorem aKQ {pins:List (Addr×Obj)} {σ:St} {H:Hp} {s:Ad} {R:List V->Hp->Prop} {Q:Value->Ad->Prop} (c:XC X.K C bm) (hg:Gl X x) (hm:X.mg x=some (.ref C)) (ha:PA X (e :: es) t) (I:Inv X pins σ H s) (h:t σ H R)
  (go:∀ us vs s1 H1,Inv X pins σ H1 s1->Vals vs us->R vs H1->X.s₀.heap.objs.size<=s1.heap.objs.size->Ar (AB X.prog X.w) X.A (call (.ref C) us) Q X.xe s1)
  (hdb:(x == ("__debug__":Str))=false:=by decide) (he:AW (e :: es) X.env=(false,eval e X.env) :: AW es X.env:=by rfl) (hpl:(Fe pos (AW es X.env)).any (·.1)=false:=by rfl) :
  Ar (AB X.prog X.w) X.A (eval (.Call (.Name x p) (e :: es) [] pos) X.env) Q X.xe s:=by
 refine Cb (ji I hg hm ?_ hdb)
 exact FI (h₀:=X.base) I.ok.mod.kin c.kp (thn (ha pos pins s σ H _ I h) fun us s1 ⟨vs,H1,I1,r,q⟩=>⟨I1.kIn,go us vs s1 H1 I1 r q I1.sz⟩) he hpl
theorem aIx {M:Ky} {A:AY} {E:Value->Ad->Prop} {s:Ad} {env:Env} {v:Sem Value} {Q:Flow->Ad->Prop} {K:Af} (hh:A.handled=none) (c:XC K C bm)
    (h:Ar M A v (fun u s1=>∃ e oe a0,u=.ref e/\K.In s1.heap/\s1.heap.get? e=some oe/\oe.cls=.ref C/\oe.data=.fields #[a0,.none,.none,.none,.bool false,.none]/\E u s1) E s):Ar M A (raiseStmt env (some v) none) Q E s:=by
  have hB:=c.has (v:=.type "BaseException") (by decide)
  obtain ⟨nm,qn,N,bs,sn,sub,ab,col,dd,k0,k1,k2,k3,k5,lk⟩:=c.lk
  unfold raiseStmt
  refine Aa (AT h (fun u s1 z=>?_) fun _ _ z=>z)
  obtain ⟨e,oe,a0,rfl,X,he,hc,hd,hE⟩:=z
  have cC:=X _ _ lk
  obtain ⟨hp,g,d,tk,os⟩:=s1
  obtain ⟨oc,odi,oda,osl⟩:=oe
  dsimp only at hc hd
  subst hc hd
  repeat (first
    | with_reducible refine DL he ?_
    | with_reducible refine DL cC ?_
    | (with_reducible refine Fv cC ?_; rw [hB])
    | wp_step)
  exact wpAny_raiseNew_none hh hE
theorem XIn.fresh {E:XS} {σ:St} {H1 H2:Hp} {s1 s2:Ad} {pins:List (Addr×Obj)} {e:Addr} {dx:Option Addr} (I1:Inv X pins σ H1 s1) (I2:Inv X pins σ H2 s2) (le:s1.heap.objs.size<=e) (hx:H2 e=some (xO true (.ref C) dx e)) (hE:E (.ref C) dx σ (del H2 e)):XIn X E (.ref e) s2:=by
 obtain ⟨⟨oe,vs,g1,g2,g3,g4,g5⟩,_⟩:=(show ObjOk X.prog X.w H2 s2.heap e (xO true (.ref C) dx e) from I2.hok e _ hx)
 obtain ⟨a0,rfl⟩:=g5 rfl
 refine ⟨e,.ref C,dx,σ,del H2 e,rfl,(I2.untrack hx).pins_of fun p hp=>absurd hp (by simp),⟨ql,Ay I1.sz le,Cd (Aw I1.lt le),fun y c q z=>?_,fun p hp z=>?_⟩,.inl ⟨rfl,oe,_,g1,g2,g3,g4,rfl⟩,hE⟩
 ·obtain ⟨v,q⟩:=I1.cell y c q
  exact absurd (Aw q.lt (by rw [z]; exact le)) (BC _)
 ·exact absurd (Aw (Ap (I1.pin p (CL _ hp)).1) (by rw [z]; exact le)) (BC _)
noncomputable def aKR (C:Addr) (sp:Sp) (E:XS) (t:TA):TS:=fun _ σ H=>t σ H fun vs H1=>vs.length<=sizeLine/\∀ e,H1 e=none->sp (.ref e :: vs) (upd H1 e (xO true (.ref C) none e)) (fun v H2=>v=.non/\∃ dx,H2 e=some (xO true (.ref C) dx e)/\E (.ref C) dx σ (del H2 e)) E0
theorem aDm {E:XS} (hc:X.calm=true) (c:XC X.K C bm) (M:XMk X.prog X.w X.K X.mg X.base C k sp) (hr:Room (k + 1) X.A) (hm:X.mg x=some (.ref C)) (ha:PA (X.raises E) (e :: es) t) (hg:Gl X x:=by rfl)
  (hdb:(x == ("__debug__":Str))=false:=by decide) (he:AW (e :: es) X.env=(false,eval e X.env) :: AW es X.env:=by rfl) (hpl:(Fe pos (AW es X.env)).any (·.1)=false:=by rfl) :
  PS (X.raises E) (.Raise (some (.Call (.Name x p) (e :: es) [] pos)) none rpos) (aKR C sp E t):=by
 intro pins s σ H D I h
 rw [arm_exec_Raise]
 refine Aa (BG ?_)
 refine aIx (K:=X.K) (I.ok.hd hc) c (Aa (aKQ (X:=X.raises E) c hg hm ha I h (fun us vs s1 H1 I1 r ⟨z,q⟩ _=>thn (aLg (X:=X.raises E) (Q:=fun e H2=>∃ dx,H2 e=some (xO true (.ref C) dx e)/\E (.ref C) dx σ (del H2 e)) c M hr I1 r z q) fun u s2 ⟨e2,H2,eu,le,I2,dx,hx,hE⟩=>?_) hdb he hpl))
 subst eu
 obtain ⟨⟨oe,vs',g1,g2,g3,g4,g5⟩,_⟩:=(show ObjOk X.prog X.w H2 s2.heap e2 (xO true (.ref C) dx e2) from I2.hok e2 _ hx)
 obtain ⟨a0,rfl⟩:=g5 rfl
 exact Aa (BG (Ab ⟨e2,oe,a0,rfl,I2.kIn,g1,g2,g4,XIn.fresh I1.unwish I2.unwish le hx hE⟩))
end
section
variable {X:Cx} {E:XS} {k:Nat} {Fam:Addr->Sp->Prop} {x:Str} {p pos:Pos} {e:Expr} {es:List Expr} {tf:TE} {t:TA}
noncomputable def aIy (Fam:Addr->Sp->Prop) (E:XS) (tf:TE) (t:TA):TE:=fun σ H Q=>tf σ H fun x H1=>∃ f sp,x=.ref f/\Fam f sp/\t σ H1 fun vs H2=>sp vs H2 Q fun cls dx H'=>E cls dx σ H'
theorem aFd (hF:∀ f sp,Fam f sp->Callee X.prog X.w X.K X.mg X.base (CXF X.prog X.w) k f sp) (hr:Room k X.A) (hf:PE (X.raises E) (.Name x p) tf) (ha:PA (X.raises E) (e :: es) t)
  (he:AW (e :: es) X.env=(false,eval e X.env) :: AW es X.env:=by rfl) (hpl:(Fe pos (AW es X.env)).any (·.1)=false:=by rfl) :
  PE (X.raises E) (.Call (.Name x p) (e :: es) [] pos) (aIy Fam E tf t):=by
 intro pins s σ H Q I h
 refine Cb (thn (hf pins s σ H _ I h) fun u s1 ⟨y,H1,I1,r1,f,sp,ey,fam,q⟩=>?_)
 subst ey
 obtain rfl:u=Value.ref f:=r1
 obtain ⟨⟨fd,ps,F,hb⟩,hk⟩:=hF f sp fam
 refine FI (h₀:=X.base) I.ok.mod.kin hk (thn (ha pos pins s1 σ H1 _ I1 q) fun us s2 ⟨vs,H2,I2,r,q2⟩=>⟨I2.kIn,?_⟩) he hpl
 have hl:us.length=ps.length:=by rw [<- r.length]; exact F.len _ _ _ _ q2
 have bd:=hb s2 us I2.kIn (by simpa using hl)
 rw [AM] at bd
 refine Fx (Dh (F.run X.A X.stack s2 H2 ⟨us,[]⟩ us vs Q (fun cls dx H'=>E cls dx σ H') hr I2.unwish.env0 bd r q2) fun rr s' z=>?_)
 cases rr with
 | error ev=>exact aIB I2.unwish z fun _ _ _ z=>z
 | ok fl =>
  cases fl with
  | ret u=>exact (I2.after z:EP (X.raises E) pins σ Q u s')
  | _=>exact z.elim
end
theorem jO:∀ (l:List (Str×Ej)) (n:Nat) (acc:List (Str×Addr)),Cr n l acc=Cr n l []++acc
 | [],_,_=>rfl
 | (y,k) :: r,n,acc=>by
  unfold Cr
  split
  ·rw [jO r (n + 1) ((y,n) :: acc),jO r (n + 1) [(y,n)],By]; rfl
  ·exact jO r n acc
theorem aCw {x:Str} {c:Addr}:∀ {l:List (Str×Ej)} {n:Nat} {acc:List (Str×Addr)},(x,c)∈Cr n l acc->(x,Eb)∈l\/(x,c)∈acc
 | [],_,_,h=>.inr h
 | (y,k) :: r,n,acc,h=>by
  unfold Cr at h
  split at h
  ·rename_i hk
   have hk':k=.cell:=by simpa using hk
   rcases aCw h with q | q
   ·exact .inl (Al _ q)
   ·rcases Aj.mp q with z | z
    ·cases z; subst hk'; exact .inl Am
    ·exact .inr z
  ·rcases aCw h with q | q
   ·exact .inl (Al _ q)
   ·exact .inr q
theorem aCx {x:Str}:∀ {l:List (Str×Ej)} {n:Nat} {acc:List (Str×Addr)},((x,Eb)∈l\/∃ c,(x,c)∈acc)->∃ c,(x,c)∈Cr n l acc
 | [],_,_,h=>by
  rcases h with h | h
  ·cases h
  ·exact h
 | (y,k) :: r,n,acc,h=>by
  unfold Cr
  split
  ·rename_i hk
   refine aCx ?_
   rcases h with h | ⟨c,h⟩
   ·rcases Aj.mp h with z | z
    ·cases z; exact .inr ⟨n,Am⟩
    ·exact .inl z
   ·exact .inr ⟨c,Al _ h⟩
  ·rename_i hk
   refine aCx ?_
   rcases h with h | h
   ·rcases Aj.mp h with z | z
    ·cases z; exact absurd rfl hk
    ·exact .inl z
   ·exact .inr h
noncomputable abbrev aA8 (scope:Scope) (C:Addr):List (Str×Addr):=Cr (C + 1) scope.names []
noncomputable def cxCC (X:Cx) (N:List Str) (scope:Scope) (cl:List (Str×Addr)) (C:Addr) (s2:Ad) (H2:Hp) (fp:List Addr):Cx:={ cxC X N scope (Cr (C + 1) scope.names cl) C s2 H2 fp with fn:=fun x=>scope.names.lookup x == some .cell }
structure CompScopeC (X:Cx) (N:List Str) (mp:List (Option Nat)) (scope:Scope):Prop where
 kind:scope.kind=.function
 cells:∀ y∈scope.names,y.2=.cell->scope.names.lookup y.1=some .cell
 names:∀ y∈scope.names,y.2=.local->scope.names.lookup y.1=some .local
 len:mp.length=N.length
 out:∀ (i j:Nat),mp[i]?=some (some j)->∃ x,N[i]?=some x/\X.N[j]?=some x/\(X.env.scope.names.lookup x=some .cell\/X.env.scope.names.lookup x=some .free)/\scope.names.lookup x=some .free
section
variable {M:Ky} {A:AY} {E:Value->Ad->Prop} {s:Ad}
theorem qa {scope:Scope} {globals builtins:Addr} {cl:List (Str×Addr)} {qual:Str} {env:Env} {Q:Env->Ad->Prop}
  (h:Q (newEnv scope s.heap.objs.size globals (Cr (s.heap.objs.size + 1) scope.names cl) qual none .none (some env) builtins) { s with heap:=Mo (s.heap.push PySem.W.emptyDict) scope.names }) :
  Ar M A (newFunctionEnv scope globals cl [] qual none .none (some env) builtins) Q E s:=by
 simp only [newFunctionEnv,KQ,if_true]
 refine Aa (IE ?_)
 refine Aa (wpAny_layCells _ (fun name kind cells=>by cases hkc:kind == Eb <;> simp [hkc]) _ _ _ _ ?_)
 rw [show ({ s with heap:=s.heap.push { cls:=.type "dict",data:=.dict #[] } }:Ad).heap.objs.size=s.heap.objs.size + 1 from Bo ..]
 refine Aa (Ab ?_)
 exact Ab h
end
section
variable {X:Cx}
theorem aCA {pins:List (Addr×Obj)} {σ:St} {H:Hp} {s2:Ad} {N:List Str} {mp:List (Option Nat)} {scope:Scope} {cl:List (Str×Addr)} {fp:List Addr} {h1:Heap} {tk:Nat} (I:Inv X pins σ H s2) (S:CompScopeC X N mp scope)
  (hcl:yI X.env.cells scope.names []=some cl) (hfp:∀ b∈fp,FpOk X pins H b) (hfo:∀ b∈fp,∃ o,s2.heap.get? b=some o)
  (old:∀ b o,s2.heap.get? b=some o->h1.get? b=some o) {oo:HO} (hD:ObjOk X.prog X.w (upd H s2.heap.objs.size oo) h1 s2.heap.objs.size oo) {m:Str->Option Value} (hC:h1.Ns (s2.heap.objs.size + 1) m) (cok:MW h1 (s2.heap.objs.size + 2) (aA8 scope (s2.heap.objs.size + 1))) :
  Inv (cxCC X N scope cl (s2.heap.objs.size + 1) s2 H fp) [] (zv mp σ) (upd H s2.heap.objs.size oo) { s2 with heap:=h1,toks:=tk }:=by
 have clm:∀ {x:Str} {c:Addr},cl.lookup x=some c->X.env.cells.lookup x=some c:=fun {x c} e=>jn hcl (fun p z=>absurd z (by simp)) (x,c) (Bn e)
 have hn:H s2.heap.objs.size=none:=I.hok.fresh (Ak _)
 have hnC:H (s2.heap.objs.size + 1)=none:=I.hok.fresh (CC _)
 have cellLt:∀ {x:Str} {c:Addr},X.env.cells.lookup x=some c->c < s2.heap.objs.size:=fun {x c} e=>by
  obtain ⟨v,q⟩:=I.cell x c e
  exact q.lt
 have freeOf:∀ x,((MX scope X.env).names.lookup x=some .cell\/(MX scope X.env).names.lookup x=some .free)->(x,Ex)∈scope.names\/(x,Eb)∈scope.names:=fun x hx=>by
  have hm:(x,Eb)∈(MX scope X.env).names\/(x,Ex)∈(MX scope X.env).names:=hx.elim (fun z=>.inl (Bn z)) fun z=>.inr (Bn z)
  have conv:∀ k,(x,k)∈(MX scope X.env).names->(k=.cell\/k=.free)->(x,Ex)∈scope.names\/(x,Eb)∈scope.names:=fun k hm hk=>by
   obtain ⟨⟨n,k'⟩,hy,e⟩:=Bk.mp hm
   dsimp only at e
   split at e
   ·rename_i hc
    simp only [AD,beq_iff_eq] at hc
    cases e
    rw [hc.1.1] at hy
    exact .inl hy
   ·cases e
    rcases hk with z | z
    ·subst z; exact .inr hy
    ·subst z; exact .inl hy
  exact hm.elim (fun z=>conv _ z (.inl rfl)) fun z=>conv _ z (.inr rfl)
 have app:∀ x,(Cr (s2.heap.objs.size + 1 + 1) scope.names cl).lookup x=((aA8 scope (s2.heap.objs.size + 1)).lookup x).or (cl.lookup x):=fun x=>by rw [jO,List.lookup_append]
 have two:∀ {x:Str} {c:Addr},(Cr (s2.heap.objs.size + 1 + 1) scope.names cl).lookup x=some c->((aA8 scope (s2.heap.objs.size + 1)).lookup x=some c/\(h1.IsCell c none/\s2.heap.objs.size + 2<=c))\/X.env.cells.lookup x=some c:=fun {x c} e=>by
  rw [app] at e
  cases eo:(aA8 scope (s2.heap.objs.size + 1)).lookup x with
  | some d =>
   rw [eo] at e
   cases e
   exact .inl ⟨rfl,cok.empty _ _ (Bn eo)⟩
  | none =>
   rw [eo] at e
   exact .inr (clm e)
 have ownHas:∀ {x:Str},(x,Eb)∈scope.names->∃ c,(aA8 scope (s2.heap.objs.size + 1)).lookup x=some c:=fun {x} hx=>by
  obtain ⟨c,hc⟩:=aCx (n:=s2.heap.objs.size + 1 + 1) (acc:=[]) (.inl hx)
  obtain ⟨d,hd,_⟩:=yZ hc
  exact ⟨d,hd⟩
 have ok:(cxCC X N scope cl (s2.heap.objs.size + 1) s2 H fp).Ok:=by
  refine ⟨I.ok.mod,S.kind,I.ok.glob,I.ok.blt,CC _,fun x y c e1 e2=>?_,fun x hx=>?_,fun x c z e=>?_,I.ok.hd,I.ok.frames,.inl rfl,fun b hb=>⟨?_,fun x c e=>?_⟩,I.bs,Ay I.ok.bsz I.sz,fun b o e hb=>?_,fun b hb z=>?_,I.stack,I.stkFree⟩
  ·rcases two e1 with ⟨o1,_,l1⟩ | o1 <;> rcases two e2 with ⟨o2,_,l2⟩ | o2
   ·exact name_of_addr cok.apart (Bn o1) (Bn o2)
   ·exact absurd (Aw (cellLt o2) (Ay (Fq _ 2) l1)) (BC _)
   ·exact absurd (Aw (cellLt o1) (Ay (Fq _ 2) l2)) (BC _)
   ·exact I.ok.inj x y c o1 o2
  ·show ∃ c,(Cr (s2.heap.objs.size + 1 + 1) scope.names cl).lookup x=some c
   rcases freeOf x hx with q | q
   ·obtain ⟨c,hc⟩:=qj hcl (.inl q)
    obtain ⟨d,hd,_⟩:=yZ hc
    rw [app,hd]
    cases (aA8 scope (s2.heap.objs.size + 1)).lookup x with
    | none=>exact ⟨d,rfl⟩
    | some c'=>exact ⟨c',rfl⟩
   ·obtain ⟨c,hc⟩:=ownHas q
    exact ⟨c,by rw [app,hc]; rfl⟩
  ·have z':scope.names.lookup x=some .cell:=beq_iff_eq.mp z
   obtain ⟨c',hc'⟩:=ownHas (Bn z')
   have e':(Cr (s2.heap.objs.size + 1 + 1) scope.names cl).lookup x=some c:=e
   rw [app,hc'] at e'
   cases e'
   exact Ay (Fq _ 2) (cok.empty _ _ (Bn hc')).2
  ·obtain ⟨o,e⟩:=hfo b hb
   exact AC (Cn (Ap e))
  ·rcases two e with ⟨_,_,l⟩ | o
   ·obtain ⟨ob,eb⟩:=hfo b hb
    exact BT (AC (Aw (Ap eb) (Ay (Fq _ 2) l)))
   ·exact (hfp b hb).2.2.2.2.1 x c o
  ·rcases (hfp b hb).2.2.2.1 with z | z
   ·exact I.ok.noex b o e z
   ·exact absurd (Aw (Ap e) (Ay I.ok.bsz z)) (BC _)
  ·rcases Aj.mp (I.stkSub b z) with q | q
   ·exact (hfp b hb).2.1 q
   ·exact (hfp b hb).2.2.1 q
 refine ⟨ok,rfl,I.bare,Un.laid old (Ak _) hn,⟨m,hC,fun i x v e1 e2 e3=>?_⟩,fun x c e=>?_,?_,fun x c e=>?_,(fun p hp=>nomatch hp),?_,?_⟩
 ·
  unfold zv at e2
  rw [AO] at e2
  cases em:mp[i]? with
  | none=>rw [em] at e2; cases e2
  | some o =>
   rw [em] at e2
   cases o with
   | none=>cases e2
   | some j =>
    have e2':(σ[j]?).bind id=some v:=Ck e2
    obtain ⟨x',n1,n2,n3,n4⟩:=S.out i j em
    rw [show (cxCC X N scope cl (s2.heap.objs.size + 1) s2 H fp).N[i]?=N[i]? from rfl,n1] at e1
    cases e1
    have sj:σ[j]?=some (some v):=by
     cases ej:σ[j]? with
     | none=>rw [ej] at e2'; cases e2'
     | some o=>rw [ej] at e2'; exact congrArg some e2'
    obtain ⟨m0,hm0,hl⟩:=I.loc
    obtain ⟨u,ru,lk⟩:=hl j x v n2 sj (.inr n3)
    refine ⟨u,ru,.inr ⟨?_,?_⟩⟩
    ·have hf:(x,Ex)∈scope.names:=Bn n4
     have key:∀ l:List (Str×Ej),l.lookup x=some .free->((l.map fun (n,k)=>if (k == Ex && X.env.scope.kind == .function && X.env.kindOf n == some .cell) then (n,Eb) else (n,k)).lookup x=some .cell \/
       (l.map fun (n,k)=>if (k == Ex && X.env.scope.kind == .function && X.env.kindOf n == some .cell) then (n,Eb) else (n,k)).lookup x=some .free):=by
      intro l
      induction l with
      | nil=>intro z; cases z
      | cons y r ih =>
       obtain ⟨n,k⟩:=y
       intro z
       rw [EA] at z
       rw [AA]
       dsimp only
       by_cases en:(x == n)=true
       ·rw [en] at z
        dsimp only at z
        cases z
        split
        ·exact .inl (by rw [EA,en])
        ·exact .inr (by rw [EA,en])
       ·have en2:(x == n)=false:=by simpa using en
        rw [en2] at z
        dsimp only at z
        split
        ·rw [EA,en2]; exact ih z
        ·rw [EA,en2]; exact ih z
     exact key scope.names n4
    ·have hf:(x,Ex)∈scope.names:=Bn n4
     obtain ⟨c,hc⟩:=qj hcl (.inl hf)
     obtain ⟨d,hd,_⟩:=yZ hc
     rcases lk with ⟨k1,_⟩ | ⟨_,c',hc',z⟩
     ·have k1':X.env.scope.names.lookup x=some .local:=k1
      rcases n3 with z | z <;> (rw [k1'] at z; cases z)
     ·have e:=clm hd
      rw [hc'] at e
      have e3:c'=d:=Ck e
      obtain ⟨o,ho,hdt⟩:=z
      rw [e3] at ho
      have no:(aA8 scope (s2.heap.objs.size + 1)).lookup x=none:=by
       cases eo:(aA8 scope (s2.heap.objs.size + 1)).lookup x with
       | none=>rfl
       | some c0 =>
        rcases aCw (Bn eo) with q | q
        ·have:=S.cells _ q rfl
         rw [n4] at this
         cases this
        ·cases q
      exact ⟨d,by show (Cr (s2.heap.objs.size + 1 + 1) scope.names cl).lookup x=some d; rw [app,no]; exact hd,o,old _ _ ho,hdt⟩
 ·rcases two e with ⟨_,ic,_⟩ | q
  ·exact ⟨_,ic⟩
  ·obtain ⟨v,o,ho,hdt⟩:=I.cell x c q
   exact ⟨v,o,old _ _ ho,hdt⟩
 ·show upd H s2.heap.objs.size oo (s2.heap.objs.size + 1)=none
  rw [zH (Cd (DC _))]; exact hnC
 ·show upd H s2.heap.objs.size oo c=none
  rcases two e with ⟨_,_,l⟩ | q
  ·rw [zH (Cd (Aw (ID (by decide)) l))]
   exact I.hok.fresh (Ay (Fq _ 2) l)
  ·rw [zH (AC (cellLt q))]
   exact I.freeC x c q
 ·exact I.hok.laid old (Ak _) hD
 ·show (zv mp σ).length=N.length
  unfold zv
  rw [Ah]; exact S.len
theorem aCB {pins:List (Addr×Obj)} {σ:St} {H:Hp} {s2:Ad} {N:List Str} {mp:List (Option Nat)} {scope:Scope} {cl:List (Str×Addr)} {fp:List Addr} {h1:Heap} {tk:Nat} (I:Inv X pins σ H s2) (S:CompScopeC X N mp scope)
  (hcl:yI X.env.cells scope.names []=some cl) (hfp:∀ b∈fp,FpOk X pins H b) (hfo:∀ b∈fp,∃ o,s2.heap.get? b=some o)
  (old:∀ b o,s2.heap.get? b=some o->h1.get? b=some o) (hD:h1.get? s2.heap.objs.size=some { cls:=.type "list",data:=.seq ([]:List Value).toArray }) {m:Str->Option Value} (hC:h1.Ns (s2.heap.objs.size + 1) m) (cok:MW h1 (s2.heap.objs.size + 2) (aA8 scope (s2.heap.objs.size + 1))) :
  Inv (cxCC X N scope cl (s2.heap.objs.size + 1) s2 H fp) [] (zv mp σ) (upd H s2.heap.objs.size (.lst [])) { s2 with heap:=h1,toks:=tk } :=
 aCA I S hcl hfp hfo old ⟨by show 0<=sizeLine; exact AL _,[],0,.nil,hD⟩ hC cok
theorem aDn {elt iter tg:Expr} {ifs:List Expr} {scope:Scope} {pos:Pos} {N:List Str} {mp:List (Option Nat)} {cl:List (Str×Addr)} {wi:TI} {g:Addr->Ad->Hp->List Addr->TG} {tt:Addr->Ad->Hp->List Addr->TT} {te:Addr->Ad->Hp->List Addr->TE}
  (hc:X.calm=true) (S:CompScopeC X N mp scope) (hcl:yI X.env.cells scope.names []=some cl) (hi:PI X tg iter wi)
  (hg:∀ C s2 H2 fp,PG (cxCC X N scope cl C s2 H2 fp) tg (g C s2 H2 fp)) (ht:∀ C s2 H2 fp,PTL (cxCC X N scope cl C s2 H2 fp) ifs (tt C s2 H2 fp)) (he:∀ C s2 H2 fp,PE (cxCC X N scope cl C s2 H2 fp) elt (te C s2 H2 fp))
  (hs:∀ x,BE iter X.env x=pure x)
  {use:Option (Value->Sem Unit)} {PQ:Value->Ad->Prop} {pins:List (Addr×Obj)} {s:Ad} {σ:St} {H:Hp} {Q:VK} (I:Inv X pins σ H s) (h:aIp mp wi g tt te σ H Q)
  (fin:∀ (H2:Hp) (s2:Ad) (fp:List Addr) (σ':St) (H':Hp) (s':Ad),Inv X pins σ H2 s2->(∀ b∈fp,FpOk X pins H2 b)->Inv (cxCC X N scope cl (s2.heap.objs.size + 1) s2 H2 fp) [] σ' H' s'->Q (.ref s2.heap.objs.size) H' ->
   KR (AB X.prog X.w) X.A X.xe use PQ (.ref s2.heap.objs.size) (s2.heap.objs.size + 1) (.ok .next) s') :
  Ar (AB X.prog X.w) X.A (IF (.ListComp elt [⟨tg,iter,ifs,0⟩] scope pos) scope X.env (Jq [⟨tg,iter,ifs,0⟩] pos) (Mm []) (Lq [⟨tg,iter,ifs,0⟩]) (Mp [⟨tg,iter,ifs,0⟩] X.env) use) PQ X.xe s:=by
 refine FB (use:=use) rfl hs (qP hcl) S.kind S.names (thn (hi pins s σ H _ I h) fun v s1 h1=>thn h1 fun itv s2 h2=>?_)
 obtain ⟨it,fp,tn,J,H2,e,I2,T,st2,f2,h3⟩:=h2
 subst e
 refine Bd (qa ?_)
 dsimp only
 have hn2:H2 s2.heap.objs.size=none:=I2.hok.fresh (Ak _)
 generalize hH2:s2.heap.push { cls:=.type "list",dict:=none,data:=.seq ([]:List Value).toArray }=G2
 have hC:G2.objs.size=s2.heap.objs.size + 1:=by rw [<- hH2,Bo]
 generalize hh1:Mo (G2.push PySem.W.emptyDict) scope.names=h₁
 have old1:∀ b o,G2.get? b=some o->h₁.get? b=some o:=fun b o e=>by rw [<- hh1]; exact EQ _ _ b o (Ac _ e)
 have old:∀ b o,s2.heap.get? b=some o->h₁.get? b=some o:=fun b o e=>old1 b o (hH2 ▸ Ac _ e)
 have hD1:h₁.get? s2.heap.objs.size=some { cls:=.type "list",data:=.seq ([]:List Value).toArray }:=old1 _ _ (hH2 ▸ Ag _ rfl)
 have hns₁:h₁.Ns (s2.heap.objs.size + 1) (fun _=>none):=by
  have e1:h₁.get? G2.objs.size=some PySem.W.emptyDict:=by rw [<- hh1]; exact EQ _ _ _ _ (Ag _ rfl)
  rw [hC] at e1
  exact ⟨_,#[],_,e1,rfl,fun e he=>absurd he (by simp),fun _=>rfl⟩
 have cok:MW h₁ (s2.heap.objs.size + 2) (aA8 scope (s2.heap.objs.size + 1)):=by
  have:=LK scope.names (G2.push PySem.W.emptyDict) (s2.heap.objs.size + 2) [] ⟨fun _ _ hm=>(nomatch hm),BJ⟩ (by rw [Bo,hC]; exact Ak _)
  rw [Bo,hC,hh1] at this
  exact this
 obtain ⟨W,⟨m0,w0⟩,turn⟩:=h3 s2.heap.objs.size hn2 (s2.heap.objs.size + 1) s2 fp
 have I4:=aCB (tk:=s2.toks) I2 S hcl f2 (fun b hb=>let ⟨o,e,_⟩:=T.obj _ _ st2 b hb; ⟨o,e⟩) old hD1 hns₁ cok
 have st4:tn 0 h₁:=T.keep _ _ _ st2 fun b hb o e=>old b o e
 have stat:∀ {pl:List (Addr×Obj)} {H':Hp},(∀ b∈fp,H' b=none)->(∀ p∈pl,p.1 ∉ fp)->∀ b∈fp,FpOk (cxCC X N scope cl (s2.heap.objs.size + 1) s2 H2 fp) pl H' b:=fun {pl H'} hn hp b hb =>
  ⟨hn b hb,(I4.ok.exf b hb).1,I4.ok.exfs b hb,.inl hb,(I4.ok.exf b hb).2,fun p z q=>hp p (by simpa [cxC,cxCC] using z) (by rw [q]; exact hb)⟩
 have fr0:∀ b∈fp,(upd H2 s2.heap.objs.size (.lst [])) b=none:=fun b hb=>by
  obtain ⟨o,e,_⟩:=T.obj _ _ st2 b hb
  rw [zH (AC (Ap e))]
  exact (f2 b hb).1
 have loop:CA (AB X.prog X.w) X.A (.compLoop (.ListComp elt [⟨tg,iter,ifs,0⟩] scope pos) 0 (.ref it) (.ref s2.heap.objs.size) (Iw scope (Cr (s2.heap.objs.size + 1 + 1) scope.names cl) (s2.heap.objs.size + 1) X.env))
   (KR (AB X.prog X.w) X.A X.xe use PQ (.ref s2.heap.objs.size) (s2.heap.objs.size + 1)) { s2 with heap:=h₁,toks:=s2.toks }:=by
  refine aCp (fun n s'=>∃ i σ' H',Inv (cxCC X N scope cl (s2.heap.objs.size + 1) s2 H2 fp) [] σ' H' s'/\tn i s'.heap/\(∀ b∈fp,H' b=none)/\W i n σ' H') ?_ m0 ⟨0,_,_,I4,st4,fr0,w0⟩
  rintro n s3 ⟨i,σ3,H3,I3,st3,fr3,w3⟩
  rcases turn i n σ3 H3 w3 with ⟨stop,qn⟩ | ⟨go,N',hN,step⟩
  ·refine (thn (T.done (cxCC X N scope cl (s2.heap.objs.size + 1) s2 H2 fp) rfl rfl rfl hc i [] s3 σ3 H3 (fun _ _=>False) I3 (stat fr3 (fun _ z=>nomatch z)) st3 stop) fun r s4 ⟨hr,I4'⟩=>?_)
   subst hr
   exact fin H2 s2 fp _ _ _ I2 f2 I4' qn
  ·refine (thn (T.item (cxCC X N scope cl (s2.heap.objs.size + 1) s2 H2 fp) rfl rfl rfl hc i [] s3 σ3 H3 (fun _ _=>False) I3 (stat fr3 (fun _ z=>nomatch z)) st3 go) fun r s4 ⟨u,hr,h4⟩=>?_)
   subst hr
   refine thn h4 fun _ s5 ⟨x,H5,I5,r5,y5,st5,fr5⟩=>?_
   have I5':=I5.pinned (pins:=[]) (stat fr5 (fun _ z=>nomatch z)) (T.obj _ _ st5)
   refine (thn (hg (s2.heap.objs.size + 1) s2 H2 fp _ s5 σ3 H5 x u _ I5' r5 (step x H5 y5)) fun _ s6 ⟨σ6,H6,I6,q6⟩=>?_)
   refine (thn (ht (s2.heap.objs.size + 1) s2 H2 fp _ s6 σ6 H6 _ I6 q6) fun b s7 ⟨H7,I7,q7⟩=>?_)
   have Jg:∀ {σ7:St} {H7:Hp} {s7:Ad},Inv (cxCC X N scope cl (s2.heap.objs.size + 1) s2 H2 fp) ([]++aAI fp s5.heap) σ7 H7 s7->N' σ7 H7->∃ m,m < n/\∃ i σ' H',Inv (cxCC X N scope cl (s2.heap.objs.size + 1) s2 H2 fp) [] σ' H' s7/\tn i s7.heap/\(∀ b∈fp,H' b=none)/\W i m σ' H':=fun {σ7 H7 s7} I7 n7=>by
    obtain ⟨m',hm,w7⟩:=hN σ7 H7 n7
    refine ⟨m',hm,i + 1,σ7,H7,I7.unpinned,T.keep _ _ _ st5 fun b hb o e=>(I7.pin (b,o) (An _ (An _ (zd hb e)))).1,fun b hb=>?_,w7⟩
    obtain ⟨o,e,d⟩:=T.obj _ _ st5 b hb
    exact (I7.pin (b,o) (An _ (An _ (zd hb e)))).2.1
   cases b with
   | false =>
    rw [if_neg Av] at q7 ⊢
    exact Jg I7 q7
   | true =>
    rw [if_pos rfl] at q7 ⊢
    refine (thn (he (s2.heap.objs.size + 1) s2 H2 fp _ s7 σ6 H7 _ I7 q7) fun y s8 ⟨yv,H8,I8,ry,xs,hx,hz,n8⟩=>?_)
    refine (thn (yE (X:=cxCC X N scope cl (s2.heap.objs.size + 1) s2 H2 fp) _ s8 σ6 H8 (.ref s2.heap.objs.size) [yv] (.ref s2.heap.objs.size) [y] (fun _ H'=>N' σ6 H') I8 rfl (.cons ry .nil) ⟨_,xs,yv,rfl,rfl,hx,hz,n8⟩) fun _ s9 ⟨_,H9,I9,_,n9⟩=>?_)
    exact Jg I9 n9
 have goal:=Jb loop (T.self X.A 0 { s2 with heap:=h₁,toks:=s2.toks } _ _ st4 loop)
 rw [hC]
 exact goal
theorem jP {N:List Str} {scope:Scope} {cl:List (Str×Addr)} {pins:List (Addr×Obj)} {σ σ':St} {H2 H':Hp} {s2 s':Ad} {fp:List Addr} {h'':Heap} (I2:Inv X pins σ H2 s2) (f2:∀ b∈fp,FpOk X pins H2 b) (J':Inv (cxCC X N scope cl (s2.heap.objs.size + 1) s2 H2 fp) [] σ' H' s')
  (keepC:∀ b o,b≠s2.heap.objs.size + 1->s'.heap.get? b=some o->h''.get? b=some o):Inv X pins σ H' { s' with heap:=h'' }:=by
 have u0:=J'.base
 have neC:∀ b o,s2.heap.get? b=some o->b≠s2.heap.objs.size + 1:=fun b o e=>AC (Cn (Ap e))
 have u:Un (frs X.stack) fp H2 H' s2.heap h'':=⟨fun b o e n hb hx=>keepC b o (neC b o e) (u0.keep b o e n hb hx),fun b o e n hb hx=>by
   obtain ⟨sl,e1⟩:=u0.slot b o e n hb hx
   exact ⟨sl,keepC b _ (neC b o e) e1⟩,u0.free,fun b o e hx=>by
   obtain ⟨o',e1⟩:=u0.there b o e hx
   exact ⟨o',keepC b o' (neC b o e) e1⟩,u0.tups,u0.frzs,u0.tbls⟩
 have freeC:H' (s2.heap.objs.size + 1)=none:=J'.free
 have hok:HOk X.prog X.w H' h'':=fun b o e=>(J'.hok b o e).stay (fun c v hcc r=>keepC c v (by
   intro z
   rcases hcc with q1 | q1
   ·rw [<- q1,z,freeC] at e; cases e
   ·rw [z,freeC] at q1; cases q1) r) (fun _ z=>z) fun _ _ z=>z
 exact I2.call' (s':={ s' with heap:=h'' }) J'.os u hok J'.bare fun b hb=>⟨(f2 b hb).2.2.2.1,(f2 b hb).2.1,(f2 b hb).2.2.2.2.1,(f2 b hb).2.2.2.2.2⟩
theorem yT {elt iter tg:Expr} {ifs:List Expr} {scope:Scope} {pos:Pos} {N:List Str} {mp:List (Option Nat)} {cl:List (Str×Addr)} {wi:TI} {g:Addr->Ad->Hp->List Addr->TG} {tt:Addr->Ad->Hp->List Addr->TT} {te:Addr->Ad->Hp->List Addr->TE}
  (hc:X.calm=true) (S:CompScopeC X N mp scope) (hcl:yI X.env.cells scope.names []=some cl) (hi:PI X tg iter wi)
  (hg:∀ C s2 H2 fp,PG (cxCC X N scope cl C s2 H2 fp) tg (g C s2 H2 fp)) (ht:∀ C s2 H2 fp,PTL (cxCC X N scope cl C s2 H2 fp) ifs (tt C s2 H2 fp)) (he:∀ C s2 H2 fp,PE (cxCC X N scope cl C s2 H2 fp) elt (te C s2 H2 fp))
  (hs:∀ x,BE iter X.env x=pure x:=by intro _; rfl) :
  PE X (.ListComp elt [⟨tg,iter,ifs,0⟩] scope pos) (aIp mp wi g tt te):=by
 intro pins s σ H Q I h
 rw [eval_ListComp]
 refine aDn hc S hcl hi hg ht he hs I h fun H2 s2 fp σ' H' s' I2 f2 J' q=>?_
 obtain ⟨m,hm,_⟩:=id J'.loc
 exact ⟨m,hm,fun h'' sb=>⟨.ref s2.heap.objs.size,H',jP I2 f2 J' fun b o hb e=>sb.extBut b o hb e,rfl,q⟩⟩
theorem aIz {i:Nat} {x:Str} {pos' spos:Pos} {elt iter tg:Expr} {ifs:List Expr} {scope:Scope} {pos:Pos} {N:List Str} {mp:List (Option Nat)} {cl:List (Str×Addr)} {wi:TI} {g:Addr->Ad->Hp->List Addr->TG} {tt:Addr->Ad->Hp->List Addr->TT} {te:Addr->Ad->Hp->List Addr->TE}
  (hN:X.N.Nodup) (hx:X.N[i]?=some x) (hl:Loc X.env.scope x) (hc:X.calm=true) (S:CompScopeC X N mp scope) (hcl:yI X.env.cells scope.names []=some cl) (hi:PI X tg iter wi)
  (hg:∀ C s2 H2 fp,PG (cxCC X N scope cl C s2 H2 fp) tg (g C s2 H2 fp)) (ht:∀ C s2 H2 fp,PTL (cxCC X N scope cl C s2 H2 fp) ifs (tt C s2 H2 fp)) (he:∀ C s2 H2 fp,PE (cxCC X N scope cl C s2 H2 fp) elt (te C s2 H2 fp))
  (hs:∀ x,BE iter X.env x=pure x:=by intro _; rfl)
  (hsw:GK (.ListComp elt [⟨tg,iter,ifs,0⟩] scope pos) (some (.Name x pos')) spos.line X.env=pure true:=by rfl)
  (hf:X.fn x=true\/X.env.scope.names.lookup x=some .local:=by first | exact .inl rfl | exact .inr rfl | assumption) :
  PS X (.Assign [.Name x pos'] (.ListComp elt [⟨tg,iter,ifs,0⟩] scope pos) spos) (fun D σ H=>aIp mp wi g tt te σ H fun v H1=>D.nx (σ.set i (some v)) H1):=by
 intro pins s σ H D I h
 rw [Jr _ _ _ _ hsw]
 refine Aa (BG ?_)
 rw [Ie]
 refine Aa (Aa (thn (aDn hc S hcl hi hg ht he hs (PQ:=fun _ s'=>SP X pins D .next s') I h fun H2 s2 fp σ' H' s' I2 f2 J' q=>?_) fun _ _ z=>Ab (Ab z)))
 ·obtain ⟨m,⟨oC,es,ep,ho,r⟩,_⟩:=id J'.loc
  have I3:Inv X pins σ H' s':=jP (h'':=s'.heap) I2 f2 J' fun b o _ e=>e
  have nL:s2.heap.objs.size + 1≠X.env.locals:=Cd (Aw I2.lt (CC _))
  have nf:s2.heap.objs.size + 1 ∉ X.fs:=I2.nofs (CC _)
  have fp:=Inv.fpOk (H':=H') I2 (CC _) (b:=s2.heap.objs.size + 1) J'.free
  have I4:Inv X (pins++[(s2.heap.objs.size + 1,oC)]) σ H' s':=I3.pins_of fun p hp=>by
   rcases Bj.mp hp with z | z
   ·exact I3.pin p (An _ z)
   ·have e:p=(s2.heap.objs.size + 1,oC):=by simpa using z
    subst e
    exact ⟨ho,J'.free,nL,nf,fun v z=>by rw [r.1] at z; cases z⟩
  show Ar _ _ (HU (.Name x pos') X.env _) _ _ _
  refine Aa (BG (Hv (qi I4 hN hx hl (show RelV (.ref s2.heap.objs.size) (.ref s2.heap.objs.size) from rfl) (fun s5 I5=>?_) hf)))
  obtain ⟨hC,_⟩:=I5.pin (s2.heap.objs.size + 1,oC) (An _ (An _ (by simp)))
  refine ⟨m,⟨oC,es,ep,hC,r⟩,fun h' sb=>⟨_,H',?_,q⟩⟩
  have I6:Inv X pins (σ.set i (some (.ref s2.heap.objs.size))) H' s5:=I5.pins_of fun p hp=>I5.pin p (An _ (CL _ hp))
  exact I6.turned (t':=s5.toks) (it:=s2.heap.objs.size + 1) (fun b o hb e=>sb.extBut b o hb e) fp.1 fp.2.1 fp.2.2.2.1 fp.2.2.2.2.1 fp.2.2.2.2.2
theorem yn {N:List Str} {scope:Scope} (mp:List (Option Nat)) (h1:scope.kind=.function) (h2:∀ y∈scope.names,y.2=.cell->scope.names.lookup y.1=some .cell) (h3:∀ y∈scope.names,y.2=.local->scope.names.lookup y.1=some .local) (h4:mp.length=N.length)
  (h5:aAw X.N X.env.scope.names N scope.names mp 0=true):CompScopeC X N mp scope :=
 ⟨h1,h2,h3,h4,fun i j e=>by
  obtain ⟨x,a,b,c,d⟩:=aAO h5 i j e
  exact ⟨x,by simpa using a,b,c,d⟩⟩
end
theorem aBP (elt t1 i1 t2 i2:Expr) (scope:Scope) (pos:Pos) (it acc:Value) (env:Env) :
  Hm (.ListComp elt [⟨t1,i1,[],0⟩,⟨t2,i2,[],0⟩] scope pos) 0 it acc env=(do
   Ft i1.pos
   match <- Dq it with
   | none=>pure (.done .next)
   | some v =>
    Cy t1 it v
    HU t1 env v
    let x <- eval i2 env
    Ft i2.pos
    let x <- BE i2 env x
    let _ <- runOwn (.compStart (.ListComp elt [⟨t1,i1,[],0⟩,⟨t2,i2,[],0⟩] scope pos) 1 (<- Iq [x] (FH x)) acc env) env
    Jg (.compLoop (.ListComp elt [⟨t1,i1,[],0⟩,⟨t2,i2,[],0⟩] scope pos) 0 it acc env)):=by rfl
theorem aBQ (elt t1 i1 t2 i2:Expr) (scope:Scope) (pos:Pos) (it acc:Value) (env:Env) :
  Hm (.ListComp elt [⟨t1,i1,[],0⟩,⟨t2,i2,[],0⟩] scope pos) 1 it acc env=(do
   Ft i2.pos
   match <- Dq it with
   | none=>pure (.done .next)
   | some v =>
    Cy t2 it v
    HU t2 env v
    (do let _ <- call (.builtin "list.append") [acc,<- eval elt env])
    Jg (.compLoop (.ListComp elt [⟨t1,i1,[],0⟩,⟨t2,i2,[],0⟩] scope pos) 1 it acc env)):=by rfl
section
variable {prog:At} {w:AV} {A:AY} {R:JV->Ad->Prop} {s:Ad}
theorem aAr {elt t1 i1 t2 i2 scope pos it acc env}
    (h0:CA (AB prog w) A (.compLoop (.ListComp elt [⟨t1,i1,[],0⟩,⟨t2,i2,[],0⟩] scope pos) 1 it acc env) R s)
    (h:Ar (AB prog w) A (FH it) (fun it' s'=>CA (AB prog w) A (.compLoop (.ListComp elt [⟨t1,i1,[],0⟩,⟨t2,i2,[],0⟩] scope pos) 1 it' acc env) R s')
      (notedBy (AB prog w) A env fun x s'=>R (.error x) s') s) :
    CA (AB prog w) A (.compStart (.ListComp elt [⟨t1,i1,[],0⟩,⟨t2,i2,[],0⟩] scope pos) 1 it acc env) R s:=by
  refine DS ?_
  show Ar _ _ ((Js (.ListComp elt [⟨t1,i1,[],0⟩,⟨t2,i2,[],0⟩] scope pos) 1 it acc env).onRaise (fun x=>do FL x env; Ft Jt)) _ _ s
  refine KS ?_
  unfold Js
  show Ar _ _ (ask >>= _) _ _ s
  refine Aa (BO (Nn ?_))
  split
  · first
      | exact Aa (Ab (Ab (ER rfl h0)))
      | exact Ab (ER rfl h0)
  · first
      | exact Aa (CK (Aa (BG (Aa (AT h (fun it' s' h'=>Ab (ER rfl h')) fun _ _ x=>x)))))
      | (refine Aa (CK ?_); show Ar _ _ (Ft i2.pos >>= _) _ _ s; exact Aa (BG (Aa (AT h (fun it' s' h'=>Ab (ER rfl h')) fun _ _ x=>x))))
theorem aBR {elt t1 i1 t2 i2:Expr} {scope:Scope} {pos:Pos} {it acc:Value} {env:Env} (I:Nat->Ad->Prop) (hs:∀ x,BE i2 env x=pure x)
  (turn:∀ n s,I n s->Ar (AB prog w) A (Dq it) (fun r s₁=>match r with
   | none=>R (.ok .next) s₁
   | some v=>Ar (AB prog w) A (Cy t1 it v) (fun _ s1=>Ar (AB prog w) A (HU t1 env v) (fun _ s₂ =>
     Ar (AB prog w) A (eval i2 env) (fun x s₃=>Ar (AB prog w) A (FH x) (fun it2 s₄ =>
      CA (AB prog w) A (.compStart (.ListComp elt [⟨t1,i1,[],0⟩,⟨t2,i2,[],0⟩] scope pos) 1 it2 acc env) (fun r s₅=>r=.ok .next/\∃ m,m < n/\I m s₅) s₄) (fun _ _=>False) s₃) (fun _ _=>False) s₂) (fun _ _=>False) s1) (fun _ _=>False) s₁) (fun _ _=>False) s)
  (n:Nat) (h:I n s) :
  CA (AB prog w) A (.compLoop (.ListComp elt [⟨t1,i1,[],0⟩,⟨t2,i2,[],0⟩] scope pos) 0 it acc env) R s:=by
 refine Hl rfl I (fun n s hI=>?_) n h
 show Ar _ A ((Hm (.ListComp elt [⟨t1,i1,[],0⟩,⟨t2,i2,[],0⟩] scope pos) 0 it acc env).onRaise (fun x=>do FL x env; FM x)) _ _ s
 refine Ix ?_
 rw [aBP]
 refine Aa (BG (Aa (AT (turn n s hI) (fun r s₁ h₁=>?_) fun _ _ h'=>h'.elim)))
 cases r with
 | none=>exact Ab h₁
 | some v =>
  refine Aa (AT h₁ (fun _ s1 h1=>Aa (AT h1 (fun _ s₂ h₂=>Aa (AT h₂ (fun x s₃ h₃=>?_) fun _ _ h'=>h'.elim)) fun _ _ h'=>h'.elim)) fun _ _ h'=>h'.elim)
  refine Aa (BG (Aa (Ey (hs x) (Aa (Bw (AT h₃ (fun it2 s₄ h₄=>?_) fun _ _ h'=>h'.elim))))))
  refine Aa (wpAny_runOwn (Dh h₄ fun r s₅ hr=>?_))
  obtain ⟨rfl,hm⟩:=hr
  exact Ab ⟨rfl,hm⟩
theorem aBS {elt t1 i1 t2 i2:Expr} {scope:Scope} {pos:Pos} {it acc:Value} {env:Env} (I:Nat->Ad->Prop)
  (turn:∀ n s,I n s->Ar (AB prog w) A (Dq it) (fun r s₁=>match r with
   | none=>R (.ok .next) s₁
   | some v=>Ar (AB prog w) A (Cy t2 it v) (fun _ s1=>Ar (AB prog w) A (HU t2 env v) (fun _ s₂ =>
     Ar (AB prog w) A (eval elt env) (fun x s₄ =>
       Ar (AB prog w) A (call (.builtin "list.append") [acc,x]) (fun _ s₅=>∃ m,m < n/\I m s₅) (fun _ _=>False) s₄) (fun _ _=>False) s₂) (fun _ _=>False) s1) (fun _ _=>False) s₁) (fun _ _=>False) s)
  (n:Nat) (h:I n s) :
  CA (AB prog w) A (.compLoop (.ListComp elt [⟨t1,i1,[],0⟩,⟨t2,i2,[],0⟩] scope pos) 1 it acc env) R s:=by
 refine Hl rfl I (fun n s hI=>?_) n h
 show Ar _ A ((Hm (.ListComp elt [⟨t1,i1,[],0⟩,⟨t2,i2,[],0⟩] scope pos) 1 it acc env).onRaise (fun x=>do FL x env; FM x)) _ _ s
 refine Ix ?_
 rw [aBQ]
 refine Aa (BG (Aa (AT (turn n s hI) (fun r s₁ h₁=>?_) fun _ _ h'=>h'.elim)))
 cases r with
 | none=>exact Ab h₁
 | some v =>
  refine Aa (AT h₁ (fun _ s1 h1=>Aa (AT h1 (fun _ s₂ h₂=>?_) fun _ _ h'=>h'.elim)) fun _ _ h'=>h'.elim)
  exact Aa (Aa (AT h₂ (fun x s₄ h₄=>Aa (AT h₄ (fun _ s₅ h₅=>Ab (Ab ⟨rfl,h₅⟩)) fun _ _ h'=>h'.elim)) fun _ _ h'=>h'.elim))
end
noncomputable def tIn (D:Addr) (wi:TI) (g:TG) (te:TE) (NX:St->Hp->Prop) (σ:St) (H:Hp):Prop:=wi σ H fun J H1=>∃ W:Nat->Nat->St->Hp->Prop,(∃ m,W 0 m σ H1)/\∀ i m σ H,W i m σ H ->
 (J.stop i H/\NX σ H)\/(J.go i H/\∃ N:St->Hp->Prop,(∀ σ' H',N σ' H'->∃ m',m' < m/\W (i + 1) m' σ' H')/\∀ x H',J.yld i H x H'->g x σ H' fun σ2 H2=>te σ2 H2 fun y H5=>∃ xs,H5 D=some (.lst xs)/\xs.length < sizeLine/\N σ2 (upd H5 D (.lst (xs++[y]))))
noncomputable def aIC (mp:List (Option Nat)) (wi:TI) (g:Addr->Ad->Hp->List Addr->TG) (wi2:Addr->Ad->Hp->List Addr->TI) (g2:Addr->Ad->Hp->List Addr->TG) (te:Addr->Ad->Hp->List Addr->TE):TE:=fun σ H Q=>wi σ H fun J H1=>∀ (D:Addr),H1 D=none->∀ (C:Addr) (s2:Ad) (fp:List Addr),
 ∃ W:Nat->Nat->St->Hp->Prop,(∃ m,W 0 m (zv mp σ) (upd H1 D (.lst [])))/\∀ i m σ2 H2,W i m σ2 H2 ->
  (J.stop i H2/\Q (.ref D) H2)\/(J.go i H2/\∃ N:St->Hp->Prop,(∀ σ' H',N σ' H'->∃ m',m' < m/\W (i + 1) m' σ' H')/\∀ x H',J.yld i H2 x H'->g C s2 H1 fp x σ2 H' fun σ3 H3=>tIn D (wi2 C s2 H1 fp) (g2 C s2 H1 fp) (te C s2 H1 fp) N σ3 H3)
noncomputable def aLh (i:Nat) (t:TE):TS:=fun D σ H=>t σ H fun v H1=>D.nx (σ.set i (some v)) H1
section
variable {X:Cx}
theorem aKS {elt t1 i1 t2 i2:Expr} {scope:Scope} {pos:Pos} {wi:TI} {g:TG} {te:TE} {D:Addr} {NX:St->Hp->Prop} (hc:X.calm=true) (hx:X.xe=fun _ _=>False) (hi:PI X t2 i2 wi) (hg:PG X t2 g) (he:PE X elt te)
  {pins:List (Addr×Obj)} {s:Ad} {σ:St} {H:Hp} {R:Ad->Prop} (I:Inv X pins σ H s) (h:tIn D wi g te NX σ H) (fin:∀ σ' H' s',Inv X pins σ' H' s'->NX σ' H'->R s') :
  Ar (AB X.prog X.w) X.A (eval i2 X.env) (fun x s₃=>Ar (AB X.prog X.w) X.A (FH x) (fun it2 s₄ =>
   CA (AB X.prog X.w) X.A (.compStart (.ListComp elt [⟨t1,i1,[],0⟩,⟨t2,i2,[],0⟩] scope pos) 1 it2 (.ref D) X.env) (fun r s₅=>r=.ok .next/\R s₅) s₄) (fun _ _=>False) s₃) (fun _ _=>False) s:=by
 have h0:=hi pins s σ H _ I h
 rw [hx] at h0
 refine thn h0 fun v s1 h1=>thn h1 fun itv s2 h2=>?_
 obtain ⟨it,fp,tn,J,H2,e,I2,T,st2,f2,W,⟨m0,w0⟩,turn⟩:=h2
 subst e
 have stat:∀ {H':Hp},(∀ b∈fp,H' b=none)->∀ b∈fp,FpOk X pins H' b:=fun hn b hb=>⟨hn b hb,(f2 b hb).2⟩
 have loop:CA (AB X.prog X.w) X.A (.compLoop (.ListComp elt [⟨t1,i1,[],0⟩,⟨t2,i2,[],0⟩] scope pos) 1 (.ref it) (.ref D) X.env) (fun r s₅=>r=.ok .next/\R s₅) s2:=by
  refine aBS (fun n s'=>∃ i σ' H',Inv X pins σ' H' s'/\tn i s'.heap/\(∀ b∈fp,H' b=none)/\W i n σ' H') ?_ m0 ⟨0,σ,H2,I2,st2,fun b hb=>(f2 b hb).1,w0⟩
  rintro n s3 ⟨i,σ3,H3,I3,st3,fr3,w3⟩
  rcases turn i n σ3 H3 w3 with ⟨stop,qn⟩ | ⟨go,N',hN,step⟩
  ·refine (thn (T.done X rfl rfl rfl hc i pins s3 σ3 H3 (fun _ _=>False) I3 (stat fr3) st3 stop) fun r s4 ⟨hr,I4'⟩=>?_)
   subst hr
   exact ⟨rfl,fin _ _ _ I4' qn⟩
  ·refine (thn (T.item X rfl rfl rfl hc i pins s3 σ3 H3 (fun _ _=>False) I3 (stat fr3) st3 go) fun r s4 ⟨u,hr,h4⟩=>?_)
   subst hr
   refine thn h4 fun _ s5 ⟨x,H5,I5,r5,y5,st5,fr5⟩=>?_
   have I5':=I5.pinned (stat fr5) (T.obj _ _ st5)
   have hg':=hg _ s5 σ3 H5 x u _ I5' r5 (step x H5 y5)
   rw [hx] at hg'
   refine (thn hg' fun _ s6 ⟨σ6,H6,I6,q6⟩=>?_)
   have Jg:∀ {σ7:St} {H7:Hp} {s7:Ad},Inv X (pins++aAI fp s5.heap) σ7 H7 s7->N' σ7 H7->∃ m,m < n/\∃ i σ' H',Inv X pins σ' H' s7/\tn i s7.heap/\(∀ b∈fp,H' b=none)/\W i m σ' H':=fun {σ7 H7 s7} I7 n7=>by
    obtain ⟨m',hm,w7⟩:=hN σ7 H7 n7
    refine ⟨m',hm,i + 1,σ7,H7,I7.unpinned,T.keep _ _ _ st5 fun b hb o e=>(I7.pin (b,o) (An _ (An _ (zd hb e)))).1,fun b hb=>?_,w7⟩
    obtain ⟨o,e,d⟩:=T.obj _ _ st5 b hb
    exact (I7.pin (b,o) (An _ (An _ (zd hb e)))).2.1
   have he':=he _ s6 σ6 H6 _ I6 q6
   rw [hx] at he'
   refine (thn he' fun y s8 ⟨yv,H8,I8,ry,xs,hx8,hz,n8⟩=>?_)
   have ha:=yE (X:=X) _ s8 σ6 H8 (.ref D) [yv] (.ref D) [y] (fun _ H'=>N' σ6 H') I8 rfl (.cons ry .nil) ⟨_,xs,yv,rfl,rfl,hx8,hz,n8⟩
   rw [hx] at ha
   refine (thn ha fun _ s9 ⟨_,H9,I9,_,n9⟩=>?_)
   exact Jg I9 n9
 exact aAr loop (T.self X.A 0 s2 _ _ st2 loop)
theorem aFe {elt t1 i1 t2 i2:Expr} {scope:Scope} {pos:Pos} {N:List Str} {mp:List (Option Nat)} {cl:List (Str×Addr)} {wi:TI} {g:Addr->Ad->Hp->List Addr->TG} {wi2:Addr->Ad->Hp->List Addr->TI} {g2:Addr->Ad->Hp->List Addr->TG} {te:Addr->Ad->Hp->List Addr->TE}
  (hc:X.calm=true) (S:CompScopeC X N mp scope) (hcl:yI X.env.cells scope.names []=some cl) (hi:PI X t1 i1 wi)
  (hg:∀ C s2 H2 fp,PG (cxCC X N scope cl C s2 H2 fp) t1 (g C s2 H2 fp)) (hi2:∀ C s2 H2 fp,PI (cxCC X N scope cl C s2 H2 fp) t2 i2 (wi2 C s2 H2 fp)) (hg2:∀ C s2 H2 fp,PG (cxCC X N scope cl C s2 H2 fp) t2 (g2 C s2 H2 fp)) (he:∀ C s2 H2 fp,PE (cxCC X N scope cl C s2 H2 fp) elt (te C s2 H2 fp))
  (hs:∀ x,BE i1 X.env x=pure x) (hs2:∀ C x,BE i2 (Iw scope (Cr (C + 1) scope.names cl) C X.env) x=pure x)
  {use:Option (Value->Sem Unit)} {PQ:Value->Ad->Prop} {pins:List (Addr×Obj)} {s:Ad} {σ:St} {H:Hp} {Q:VK} (I:Inv X pins σ H s) (h:aIC mp wi g wi2 g2 te σ H Q)
  (fin:∀ (H2:Hp) (s2:Ad) (fp:List Addr) (σ':St) (H':Hp) (s':Ad),Inv X pins σ H2 s2->(∀ b∈fp,FpOk X pins H2 b)->Inv (cxCC X N scope cl (s2.heap.objs.size + 1) s2 H2 fp) [] σ' H' s'->Q (.ref s2.heap.objs.size) H' ->
   KR (AB X.prog X.w) X.A X.xe use PQ (.ref s2.heap.objs.size) (s2.heap.objs.size + 1) (.ok .next) s') :
  Ar (AB X.prog X.w) X.A (IF (.ListComp elt [⟨t1,i1,[],0⟩,⟨t2,i2,[],0⟩] scope pos) scope X.env (Jq [⟨t1,i1,[],0⟩,⟨t2,i2,[],0⟩] pos) (Mm []) (Lq [⟨t1,i1,[],0⟩,⟨t2,i2,[],0⟩]) (Mp [⟨t1,i1,[],0⟩,⟨t2,i2,[],0⟩] X.env) use) PQ X.xe s:=by
 refine FB (use:=use) rfl hs (qP hcl) S.kind S.names (thn (hi pins s σ H _ I h) fun v s1 h1=>thn h1 fun itv s2 h2=>?_)
 obtain ⟨it,fp,tn,J,H2,e,I2,T,st2,f2,h3⟩:=h2
 subst e
 refine Bd (qa ?_)
 dsimp only
 have hn2:H2 s2.heap.objs.size=none:=I2.hok.fresh (Ak _)
 generalize hH2:s2.heap.push { cls:=.type "list",dict:=none,data:=.seq ([]:List Value).toArray }=G2
 have hC:G2.objs.size=s2.heap.objs.size + 1:=by rw [<- hH2,Bo]
 generalize hh1:Mo (G2.push PySem.W.emptyDict) scope.names=h₁
 have old1:∀ b o,G2.get? b=some o->h₁.get? b=some o:=fun b o e=>by rw [<- hh1]; exact EQ _ _ b o (Ac _ e)
 have old:∀ b o,s2.heap.get? b=some o->h₁.get? b=some o:=fun b o e=>old1 b o (hH2 ▸ Ac _ e)
 have hD1:h₁.get? s2.heap.objs.size=some { cls:=.type "list",data:=.seq ([]:List Value).toArray }:=old1 _ _ (hH2 ▸ Ag _ rfl)
 have hns₁:h₁.Ns (s2.heap.objs.size + 1) (fun _=>none):=by
  have e1:h₁.get? G2.objs.size=some PySem.W.emptyDict:=by rw [<- hh1]; exact EQ _ _ _ _ (Ag _ rfl)
  rw [hC] at e1
  exact ⟨_,#[],_,e1,rfl,fun e he=>absurd he (by simp),fun _=>rfl⟩
 have cok:MW h₁ (s2.heap.objs.size + 2) (aA8 scope (s2.heap.objs.size + 1)):=by
  have:=LK scope.names (G2.push PySem.W.emptyDict) (s2.heap.objs.size + 2) [] ⟨fun _ _ hm=>(nomatch hm),BJ⟩ (by rw [Bo,hC]; exact Ak _)
  rw [Bo,hC,hh1] at this
  exact this
 obtain ⟨W,⟨m0,w0⟩,turn⟩:=h3 s2.heap.objs.size hn2 (s2.heap.objs.size + 1) s2 fp
 have I4:=aCB (tk:=s2.toks) I2 S hcl f2 (fun b hb=>let ⟨o,e,_⟩:=T.obj _ _ st2 b hb; ⟨o,e⟩) old hD1 hns₁ cok
 have st4:tn 0 h₁:=T.keep _ _ _ st2 fun b hb o e=>old b o e
 have stat:∀ {pl:List (Addr×Obj)} {H':Hp},(∀ b∈fp,H' b=none)->(∀ p∈pl,p.1 ∉ fp)->∀ b∈fp,FpOk (cxCC X N scope cl (s2.heap.objs.size + 1) s2 H2 fp) pl H' b:=fun {pl H'} hn hp b hb =>
  ⟨hn b hb,(I4.ok.exf b hb).1,I4.ok.exfs b hb,.inl hb,(I4.ok.exf b hb).2,fun p z q=>hp p (by simpa [cxC,cxCC] using z) (by rw [q]; exact hb)⟩
 have fr0:∀ b∈fp,(upd H2 s2.heap.objs.size (.lst [])) b=none:=fun b hb=>by
  obtain ⟨o,e,_⟩:=T.obj _ _ st2 b hb
  rw [zH (AC (Ap e))]
  exact (f2 b hb).1
 have loop:CA (AB X.prog X.w) X.A (.compLoop (.ListComp elt [⟨t1,i1,[],0⟩,⟨t2,i2,[],0⟩] scope pos) 0 (.ref it) (.ref s2.heap.objs.size) (Iw scope (Cr (s2.heap.objs.size + 1 + 1) scope.names cl) (s2.heap.objs.size + 1) X.env))
   (KR (AB X.prog X.w) X.A X.xe use PQ (.ref s2.heap.objs.size) (s2.heap.objs.size + 1)) { s2 with heap:=h₁,toks:=s2.toks }:=by
  refine aBR (fun n s'=>∃ i σ' H',Inv (cxCC X N scope cl (s2.heap.objs.size + 1) s2 H2 fp) [] σ' H' s'/\tn i s'.heap/\(∀ b∈fp,H' b=none)/\W i n σ' H') (hs2 _) ?_ m0 ⟨0,_,_,I4,st4,fr0,w0⟩
  rintro n s3 ⟨i,σ3,H3,I3,st3,fr3,w3⟩
  rcases turn i n σ3 H3 w3 with ⟨stop,qn⟩ | ⟨go,N',hN,step⟩
  ·refine (thn (T.done (cxCC X N scope cl (s2.heap.objs.size + 1) s2 H2 fp) rfl rfl rfl hc i [] s3 σ3 H3 (fun _ _=>False) I3 (stat fr3 (fun _ z=>nomatch z)) st3 stop) fun r s4 ⟨hr,I4'⟩=>?_)
   subst hr
   exact fin H2 s2 fp _ _ _ I2 f2 I4' qn
  ·refine (thn (T.item (cxCC X N scope cl (s2.heap.objs.size + 1) s2 H2 fp) rfl rfl rfl hc i [] s3 σ3 H3 (fun _ _=>False) I3 (stat fr3 (fun _ z=>nomatch z)) st3 go) fun r s4 ⟨u,hr,h4⟩=>?_)
   subst hr
   refine thn h4 fun _ s5 ⟨x,H5,I5,r5,y5,st5,fr5⟩=>?_
   have I5':=I5.pinned (pins:=[]) (stat fr5 (fun _ z=>nomatch z)) (T.obj _ _ st5)
   refine (thn (hg (s2.heap.objs.size + 1) s2 H2 fp _ s5 σ3 H5 x u _ I5' r5 (step x H5 y5)) fun _ s6 ⟨σ6,H6,I6,q6⟩=>?_)
   exact aKS (X:=cxCC X N scope cl (s2.heap.objs.size + 1) s2 H2 fp) hc rfl (hi2 (s2.heap.objs.size + 1) s2 H2 fp) (hg2 (s2.heap.objs.size + 1) s2 H2 fp) (he (s2.heap.objs.size + 1) s2 H2 fp) I6 q6 fun σ7 H7 s7 I7 n7=>by
    obtain ⟨m',hm,w7⟩:=hN σ7 H7 n7
    refine ⟨m',hm,i + 1,σ7,H7,I7.unpinned,T.keep _ _ _ st5 fun b hb o e=>(I7.pin (b,o) (An _ (An _ (zd hb e)))).1,fun b hb=>?_,w7⟩
    obtain ⟨o,e,d⟩:=T.obj _ _ st5 b hb
    exact (I7.pin (b,o) (An _ (An _ (zd hb e)))).2.1
 have goal:=Jb loop (T.self X.A 0 { s2 with heap:=h₁,toks:=s2.toks } _ _ st4 loop)
 rw [hC]
 exact goal
theorem aCy {i:Nat} {x:Str} {pos' spos:Pos} {elt t1 i1 t2 i2:Expr} {scope:Scope} {pos:Pos} {N:List Str} {mp:List (Option Nat)} {cl:List (Str×Addr)} {wi:TI} {g:Addr->Ad->Hp->List Addr->TG} {wi2:Addr->Ad->Hp->List Addr->TI} {g2:Addr->Ad->Hp->List Addr->TG} {te:Addr->Ad->Hp->List Addr->TE}
  (hN:X.N.Nodup) (hx:X.N[i]?=some x) (hl:Loc X.env.scope x) (hc:X.calm=true) (S:CompScopeC X N mp scope) (hcl:yI X.env.cells scope.names []=some cl) (hi:PI X t1 i1 wi)
  (hg:∀ C s2 H2 fp,PG (cxCC X N scope cl C s2 H2 fp) t1 (g C s2 H2 fp)) (hi2:∀ C s2 H2 fp,PI (cxCC X N scope cl C s2 H2 fp) t2 i2 (wi2 C s2 H2 fp)) (hg2:∀ C s2 H2 fp,PG (cxCC X N scope cl C s2 H2 fp) t2 (g2 C s2 H2 fp)) (he:∀ C s2 H2 fp,PE (cxCC X N scope cl C s2 H2 fp) elt (te C s2 H2 fp))
  (hs:∀ x,BE i1 X.env x=pure x:=by intro _; rfl) (hs2:∀ C x,BE i2 (Iw scope (Cr (C + 1) scope.names cl) C X.env) x=pure x:=by intro _ _; rfl)
  (hsw:GK (.ListComp elt [⟨t1,i1,[],0⟩,⟨t2,i2,[],0⟩] scope pos) (some (.Name x pos')) spos.line X.env=pure true:=by rfl)
  (hf:X.fn x=true\/X.env.scope.names.lookup x=some .local:=by first | exact .inl rfl | exact .inr rfl | assumption) :
  PS X (.Assign [.Name x pos'] (.ListComp elt [⟨t1,i1,[],0⟩,⟨t2,i2,[],0⟩] scope pos) spos) (aLh i (aIC mp wi g wi2 g2 te)):=by
 intro pins s σ H D I h
 rw [Jr _ _ _ _ hsw]
 refine Aa (BG ?_)
 rw [Ie]
 refine Aa (Aa (thn (aFe hc S hcl hi hg hi2 hg2 he hs hs2 (PQ:=fun _ s'=>SP X pins D .next s') I h fun H2 s2 fp σ' H' s' I2 f2 J' q=>?_) fun _ _ z=>Ab (Ab z)))
 ·obtain ⟨m,⟨oC,es,ep,ho,r⟩,_⟩:=id J'.loc
  have I3:Inv X pins σ H' s':=jP (h'':=s'.heap) I2 f2 J' fun b o _ e=>e
  have nL:s2.heap.objs.size + 1≠X.env.locals:=Cd (Aw I2.lt (CC _))
  have nf:s2.heap.objs.size + 1 ∉ X.fs:=I2.nofs (CC _)
  have fp:=Inv.fpOk (H':=H') I2 (CC _) (b:=s2.heap.objs.size + 1) J'.free
  have I4:Inv X (pins++[(s2.heap.objs.size + 1,oC)]) σ H' s':=I3.pins_of fun p hp=>by
   rcases Bj.mp hp with z | z
   ·exact I3.pin p (An _ z)
   ·have e:p=(s2.heap.objs.size + 1,oC):=by simpa using z
    subst e
    exact ⟨ho,J'.free,nL,nf,fun v z=>by rw [r.1] at z; cases z⟩
  show Ar _ _ (HU (.Name x pos') X.env _) _ _ _
  refine Aa (BG (Hv (qi I4 hN hx hl (show RelV (.ref s2.heap.objs.size) (.ref s2.heap.objs.size) from rfl) (fun s5 I5=>?_) hf)))
  obtain ⟨hC,_⟩:=I5.pin (s2.heap.objs.size + 1,oC) (An _ (An _ (by simp)))
  refine ⟨m,⟨oC,es,ep,hC,r⟩,fun h' sb=>⟨_,H',?_,q⟩⟩
  have I6:Inv X pins (σ.set i (some (.ref s2.heap.objs.size))) H' s5:=I5.pins_of fun p hp=>I5.pin p (An _ (CL _ hp))
  exact I6.turned (t':=s5.toks) (it:=s2.heap.objs.size + 1) (fun b o hb e=>sb.extBut b o hb e) fp.1 fp.2.1 fp.2.2.2.1 fp.2.2.2.2.1 fp.2.2.2.2.2
end
theorem aID {K:Af} {a D:Addr} {zs:List V} {g:TG} {te:TE} {NX:St->Hp->Prop} {σ:St} {H:Hp} (Pv:Nat->St->Hp->Prop) (h0:Pv 0 σ H) (hl:∀ i σ H,Pv i σ H->SqT K H a zs)
  (hs:∀ i x σ H,zs[i]?=some x->Pv i σ H->g x σ H fun σ2 H2=>te σ2 H2 fun y H5=>∃ xs,H5 D=some (.lst xs)/\xs.length < sizeLine/\Pv (i + 1) σ2 (upd H5 D (.lst (xs++[y])))) (hd:∀ σ H,Pv zs.length σ H->NX σ H) :
  ∃ W:Nat->Nat->St->Hp->Prop,(∃ m,W 0 m σ H)/\∀ i m σ H,W i m σ H ->
   ((Itt K a).stop i H/\NX σ H)\/((Itt K a).go i H/\∃ N:St->Hp->Prop,(∀ σ' H',N σ' H'->∃ m',m' < m/\W (i + 1) m' σ' H')/\∀ x H',(Itt K a).yld i H x H'->g x σ H' fun σ2 H2=>te σ2 H2 fun y H5=>∃ xs,H5 D=some (.lst xs)/\xs.length < sizeLine/\N σ2 (upd H5 D (.lst (xs++[y])))):=by
 refine ⟨fun i m σ H=>m=zs.length - i/\i<=zs.length/\Pv i σ H,⟨zs.length,by simp,AL _,h0⟩,?_⟩
 rintro i m σ H ⟨rfl,hi,p⟩
 have q:=hl i σ H p
 by_cases hlt:i < zs.length
 ·refine .inr ⟨⟨zs,zs[i],q,by simp [hlt]⟩,Pv (i + 1),fun σ' H' p'=>⟨zs.length - (i + 1),by lia,rfl,hlt,p'⟩,fun x H' y=>?_⟩
  obtain ⟨e,y⟩:=y
  subst e
  exact hs i x σ _ (y zs q) p
 ·have e:i=zs.length:=by lia
  subst e
  exact .inl ⟨⟨zs,q,Ak _⟩,hd σ H p⟩
theorem aBT {K:Af} {a D:Addr} {xs:List V} {g:TG} {wi:TI} {g2:TG} {te:TE} {R:Hp->Prop} {σ:St} {H:Hp} (Pv:Nat->St->Hp->Prop) (h0:Pv 0 σ H) (hl:∀ i σ H,Pv i σ H->SqL K H a xs)
  (hs:∀ i x σ H,xs[i]?=some x->Pv i σ H->g x σ H fun σ3 H3=>tIn D wi g2 te (Pv (i + 1)) σ3 H3) (hd:∀ σ H,Pv xs.length σ H->R H) :
  ∃ W:Nat->Nat->St->Hp->Prop,(∃ m,W 0 m σ H)/\∀ i m σ2 H2,W i m σ2 H2 ->
   ((Itl K a).stop i H2/\R H2)\/((Itl K a).go i H2/\∃ N:St->Hp->Prop,(∀ σ' H',N σ' H'->∃ m',m' < m/\W (i + 1) m' σ' H')/\∀ x H',(Itl K a).yld i H2 x H'->g x σ2 H' fun σ3 H3=>tIn D wi g2 te N σ3 H3):=by
 refine ⟨fun i m σ H=>m=xs.length - i/\i<=xs.length/\Pv i σ H,⟨xs.length,by simp,AL _,h0⟩,?_⟩
 rintro i m σ H ⟨rfl,hi,p⟩
 have q:=hl i σ H p
 by_cases hlt:i < xs.length
 ·refine .inr ⟨⟨xs,xs[i],q,by simp [hlt]⟩,Pv (i + 1),fun σ' H' p'=>⟨xs.length - (i + 1),by lia,rfl,hlt,p'⟩,fun x H' y=>?_⟩
  obtain ⟨e,y⟩:=y
  subst e
  exact hs i x σ _ (y xs q) p
 ·have e:i=xs.length:=by lia
  subst e
  exact .inl ⟨⟨xs,q,Ak _⟩,hd σ H p⟩
section
variable {P:At} {w:AV} {K:Af} {mg:Str->Option Value} {base:Heap}
end
section
variable {X:Cx} {tg:Expr}
end
end L2
namespace L2
open PySem PySem.Spec PyProof.Rows PySem.Builtin.Str
variable {X:Cx}
theorem aFf:BW "max"=some (.builtin "max"):=by decide +kernel
theorem aKT:BW "min"=some (.builtin "min"):=by decide +kernel
end L2
namespace L2
open PySem PySem.Spec PyProof.Rows PySem.Builtin.Str
variable {X:Cx}
end L2
namespace L2
open PySem PySem.Spec PyProof.Rows PySem.Builtin.Str
variable {X:Cx}
end L2
namespace L2
open PySem PySem.Spec PyProof.Rows
structure Wr (p:Prop):Prop where
 un:p
section
variable {X:Cx} {e:Expr} {es:List Expr} {te:TE} {t:TA} {pos:Pos} {a b:Expr} {ta tb:TE}
theorem aBU:Wr (PA X [] tNil):=⟨zE⟩
theorem qU (ha:Wr (PE X e te)) (hr:Wr (PA X es t)) (hs:AW (e :: es) X.env=(false,eval e X.env) :: AW es X.env:=by rfl):Wr (PA X (e :: es) (aKB te t)):=⟨zB ha.un hr.un hs⟩
theorem aLi (h:Wr (PA X es t)):Wr (PE X (.List es pos) (tLst t)):=⟨yV h.un⟩
theorem aLj {i:Nat} {x:Str} {pos':Pos} (hN:X.N.Nodup) (hi:X.N[i]?=some x) (hx:Loc X.env.scope x) (he:Wr (PE X e te)) (hs:GK e (some (.Name x pos')) pos.line X.env=pure false:=by rfl) (hf:X.fn x=true\/X.env.scope.names.lookup x=some .local:=by first | exact .inl rfl | exact .inr rfl | assumption) :
  Wr (PS X (.Assign [.Name x pos'] e pos) (tAsg te (aBC i))):=⟨zS hN hi hx he.un hs hf⟩
theorem aDo {st:Stmt} {rest:List Stmt} {t u:TS} (h1:Wr (PS X st t)) (h2:Wr (PSs X rest u)):Wr (PSs X (st :: rest) (tSeq t u)):=⟨zF h1.un h2.un⟩
theorem aJ0 {st:Stmt} {t:TS} (h1:Wr (PS X st t)):Wr (PSs X [st] t):=⟨zI h1.un⟩
end
section
variable {P:At} {w:AV} {K:Af} {mg:Str->Option Value} {base:Heap}
theorem Fun.okW {x qual:Str} {st:Stmt} {f:Addr} {fd:Bu} {N ps:List Str} {k:Nat} {sp:Sp} (F:Fun K x qual st f fd) (S:FnScope N ps (zG st)) (len:∀ vs H Q E,sp vs H Q E->vs.length=ps.length)
  (hb:∀ (cdv:Value) (A:AY) (outer:List Env) (s:Ad) (H:Hp) (vs:List V) (Q:VK) (E:XK),Room k (A.deeper (JW qual (zG st) s.heap.objs.size f cdv))->sp vs H Q E ->
   ∃ t,Wr (PSs (cxOf CX0 P w K mg base N qual (zG st) f cdv A outer s H E).nox (zQ st) t)/\t { nx:=fun _ H'=>Q .non H',rt:=Q } (aAp N vs) H):FnOk P w K mg base CX0 (k + 1) f fd ps sp :=
 F.ok S len fun cdv A outer s H vs Q E hr h=>by
  obtain ⟨t,h1,q⟩:=hb cdv A outer s H vs Q E hr h
  exact ⟨t,h1.un,q⟩
end
end L2
namespace HT
open PySem PySem.Spec PyProof.Rows
theorem aJ1 (n:Nat):Fk none none (-1) (n:Int)=((n:Int) - 1,-1):=by
 unfold Fk
 rfl
theorem aEU (n:Nat):Eg ((n:Int) - 1) (-1) (-1)=n:=by
 unfold Eg
 simp
 lia
theorem aDp {α β:Type} {f g:α->Option β}:∀ {l:List α},(∀ x∈l,f x=g x)->l.filterMap f=l.filterMap g
 | [],_=>rfl
 | a :: r,h=>by
  rw [Do,Do,h a (Am ..),aDp fun x hx=>h x (Al _ hx)]
theorem aHJ (xs:List Value):((BQ xs.length).filterMap fun (m:Nat)=>xs.toArray[(((xs.length:Int) - 1) + (m:Int) * (-1)).toNat]?).toArray=xs.reverse.toArray:=by
 have e:=aH9 xs.reverse.toArray 0 xs.length
 have e2:(xs.reverse.toArray.toList.drop 0).take xs.length=xs.reverse:=by
  show (xs.reverse.drop 0).take xs.length=xs.reverse
  rw [List.drop_zero,<- BV,AE]
 rw [e2] at e
 rw [<- e]
 refine congrArg List.toArray (aDp fun m hm=>?_)
 have hm':m < xs.length:=Cm.mp hm
 rw [show (((xs.length:Int) - 1) + (m:Int) * (-1)).toNat=xs.length - 1 - m by lia,show ((((0:Nat):Int)) + (m:Int) * 1).toNat=m by lia]
 rw [CY,CY,List.getElem?_reverse hm']
section
variable {prog:At} {w:AV} {A:AY} {E:Value->Ad->Prop} {s:Ad}
theorem aA9 {sl:Addr} {vs:Value} {n:Nat} {Q:Int×Int×Nat->Ad->Prop} (hs:s.heap.IsSliceOf sl .none .none vs) (pv:IsPart vs (some (-1))) (h:Q ((n:Int) - 1,-1,n) s):Ar (AB prog w) A (Hd (.ref sl) (pure (n:Int))) Q E s:=by
 obtain ⟨os,hos,hcs,hds⟩:=id hs
 unfold Hd Builtin.Slice.sliceFields
 refine Aa (Aa (Ci hos hds (x:=.none) rfl (Aa (Ci hos hds (x:=.none) rfl (Aa (Ci hos hds (x:=vs) rfl (Ab ?_)))))))
 refine Aa (aEN pv ?_)
 show Ar _ _ (if ((-1:Int) == 0)=true then _ else _) _ _ s
 rw [if_neg (by decide)]
 refine Aa (JX (Aa (JX (Aa (Ab ?_)))))
 show Ar _ _ (match Fk none none (-1) (n:Int) with | (lo,hi)=>pure (lo,(-1:Int),Eg lo hi (-1))) _ _ s
 rw [aJ1 n]
 show Ar _ _ (pure ((n:Int) - 1,(-1:Int),Eg ((n:Int) - 1) (-1) (-1))) _ _ s
 rw [aEU]
 exact Ab h
theorem getItem_tuple_rev {t sl:Addr} {us:List Value} {vs:Value} {Q:Value->Ad->Prop} (ht:IsTup s.heap t us.toArray) (hs:s.heap.IsSliceOf sl .none .none vs) (pv:IsPart vs (some (-1)))
    (h:Q (.ref s.heap.objs.size) { s with heap:=s.heap.push { cls:=.type "tuple",data:=.seq us.reverse.toArray } }) (hsz:us.length<=sizeLine):Ar (AB prog w) A (Jj (.ref t) (.ref sl)) Q E s:=by
  obtain ⟨os,hos,hcs,hds⟩:=id hs
  have hTs:s.TypeIs (.ref sl) "slice":=⟨os,hos,hcs⟩
  unfold Jj
  try with_reducible refine Bw ?_
  first | refine Aa (Ab ?_) | skip
  refine Aa (wpAny_sequenceKey ht.typeIs (by decide) ?_)
  refine Aa (Bl (name:=CW "__getitem__") ht.typeIs Ep
    (AN Ep ht.typeIs entry_tuple_getitem ?_ (args_tuple_getitem _ _)))
  show Ar _ _ (Builtin.Tuple.tupleItemsOf (.ref t) >>= _) _ _ s
  refine Aa (tupleItemsOf_ ht ?_)
  refine Aa (FA hTs ?_)
  rw [if_pos (by decide)]
  rw [show us.toArray.size=us.length from Ao ..]
  refine Aa (aA9 hs pv ?_)
  show Ar _ _ (if (((us.length:Int) - 1) == 0 && (-1:Int) == 1 && us.length == us.length)=true then _ else _) _ _ s
  rw [if_neg (by simp),aHJ]
  have hk:sizeOk (.seq us.reverse.toArray):=by show us.reverse.toArray.size<=sizeLine; rw [Ao,BV]; exact hsz
  first
    | exact Aa (m:=Er _) (Bd (Ab ⟨_,rfl,Ab h⟩) hk)
    | exact Aa (m:=Er _) (Bd (Aa (Ab (Ab ⟨_,rfl,Ab h⟩))) hk)
    | exact Aa (Aa (m:=Er _) (Bd (Ab (Ab ⟨_,rfl,Ab h⟩)) hk))
    | exact Aa (Aa (m:=Er _) (Bd (Ab ⟨_,rfl,Ab h⟩) hk))
end
end HT
namespace L2
open PySem PySem.Spec PyProof.Rows
variable {X:Cx}
theorem aFg {e:Expr} {te:TE} {j} {p2 p3 p4 pos:Pos} (he:PE X e te):PE X (.Subscript e (.Slice none none (some (.UnaryOp .USub (.Constant (.int 1) j p3) p4)) p2) pos) (fun σ H Q=>te σ H fun x H1=>∃ a xs,x=.ref a/\SqT X.K H1 a xs/\∀ p,H1 p=none->Q (.ref p) (upd H1 p (.tup xs.reverse))):=by
 intro pins s σ H Q I h
 refine MF (thn (he pins s σ H _ I h) fun v s1 ⟨x,H1,I1,r1,q1⟩=>?_)
 obtain ⟨a,xs,rfl,hx,q⟩:=q1
 obtain rfl:v=Value.ref a:=r1
 refine wpAny_Slice ?_
 rw [evalPart_none]
 refine Ab (Ab ?_)
 refine thn (aIh (X:=X) (aLU aK6 zM) pins s1 σ H1 (fun o H'=>o=some (-1)/\H'=H1) I1 ⟨1,rfl,-1,rfl,rfl,rfl⟩) fun vs s2 ⟨o,H2,I2,ip,eo,eH⟩=>?_
 subst eo eH
 obtain ⟨its,r,ht,hz⟩:=I2.tuple hx
 have hlen:=r.length
 have I4:Inv X pins σ H2 { s2 with heap:=s2.heap.push { cls:=.type "slice",data:=.fields #[.none,.none,vs] } }:=I2.kept (t':=s2.toks) fun b ob q=>Ac _ q
 obtain ⟨its4,r4,ht4,hz4⟩:=I4.tuple hx
 refine tail_any (ops:=[.ref a,.ref s2.heap.objs.size]) ht4.typeIs Ep.lookup ?_ (by with_unfolding_all rfl)
 refine HT.getItem_tuple_rev ht4 (Heap.IsSliceOf.new ..) ip ?_ (by rw [<- r4.length]; exact hz4)
 refine ⟨.ref _,_,I4.laid (t':=s2.toks) (o:=.tup xs.reverse) (fun b ob q=>Ac _ q) (Ak _) ?_,rfl,q _ (I4.hok.fresh (Ak _))⟩
 exact ⟨by rw [BV]; exact hz,its4.reverse,r4.reverse,KB _ _⟩
theorem aB0:MtM X "list.extend" (fun x vs H Q=>∃ l b xs zs,x=.ref l/\vs=[.ref b]/\H l=some (.lst xs)/\H b=some (.tup zs)/\xs.length + zs.length<=1000000/\Q .non (upd H l (.lst (xs++zs)))):=by
 intro pins s σ H x vs v us Q I rx rv h
 obtain ⟨l,b,xs,zs,rfl,rfl,hH,hB,hz,q⟩:=h
 cases rx
 obtain ⟨u,rfl,ru⟩:=rv.one
 cases ru
 have szl:=Bb
 obtain ⟨z,its,n,r,hl,e⟩:=I.lstM hH
 obtain ⟨its2,r2,⟨o2,e2,c2,n2,d2⟩,z2⟩:=I.tuple (SqT.of hB)
 have l1:=r.length
 have l2:=r2.length
 refine AN KI ⟨_,e,rfl⟩ Ko ?_ (JN _ _)
 show Ar _ _ (CB (.ref l) (.ref b) .none) _ _ s
 unfold CB
 refine Aa (FA (T:="tuple") ⟨o2,e2,c2⟩ ?_)
 rw [if_pos (by rw [show (Dy "tuple" == Dy "tuple")=true from rfl]; simp)]
 refine Aa (Ea e2 d2 (Aa (Ea e rfl ?_)))
 have nl:¬ (!its.toArray.isEmpty && En (its.toArray.size + its2.toArray.size))=true:=by
  rw [aDd (by rw [Ao,Ao]; lia),Hw]
  exact Av
 rw [if_neg nl]
 refine Aa (Du e rfl ?_ (by rw [Ao]; lia) (by rw [Ln,Ao,Ao]; lia))
 refine Ab ⟨_,rfl,.non,_,I.lset (t':=s.toks) (its':=its++its2) hH e (by simp) (r.append r2) (by rw [Ai]; lia),rfl,q⟩
theorem jq:OpR X (EY .Add) (fun x y H Q=>∃ a b xs ys,x=.ref a/\y=.ref b/\H a=some (.tup xs)/\H b=some (.tup ys)/\xs.length + ys.length<=1000000/\∀ p H',Same H H'->H' p=some (.tup (xs++ys))->Q (.ref p) H'):=by
 intro pins s σ H x y v u Q I rx ry h
 obtain ⟨a,b,xs,ys,rfl,rfl,ha,hb,hz,q⟩:=h
 have szl:=Bb
 by_cases hx:xs=[]
 ·subst hx
  cases rx
  cases ry
  obtain ⟨its,r1,⟨⟨cls,dd,data,sl⟩,ho,hc,n,hd⟩,_⟩:=I.tuple (SqT.of ha)
  obtain ⟨its2,r2,⟨⟨cls2,dd2,data2,sl2⟩,ho2,hc2,n2,hd2⟩,_⟩:=I.tuple (SqT.of hb)
  simp only at hc hd hc2 hd2
  subst hc hd hc2 hd2
  have e0:its=[]:=r1.nil_iff.mpr rfl
  exact Ji ⟨_,ho,rfl⟩ ⟨_,ho2,rfl⟩ Gv Iu EF Ev (Em _ _)
   (tuple_addW0 a b its.toArray its2.toArray n n2 dd dd2 sl sl2 (by simp [e0])) ⟨ho,ho2,⟨.ref b,H,I,rfl,q b H (Same.refl H) hb⟩⟩
 ·exact aIi pins s σ H _ _ v u Q I rx ry ⟨a,b,xs,ys,rfl,rfl,SqT.of ha,SqT.of hb,hx,by lia,(fun e=>q a H (Same.refl H) (by rw [e,AM]; exact ha)),fun _ p hp=>q p _ (fun c o e=>by rw [zH (zD e hp)]; exact e) zC⟩
end L2
namespace L2
open PySem PySem.Spec PyProof.Rows
variable {X:Cx}
end L2
namespace HT
open PySem PySem.Spec PyProof.Rows
section
variable {prog:At} {w:AV} {A:AY} {E:Value->Ad->Prop} {s:Ad}
end
end HT
namespace L2
open PySem PySem.Spec PyProof.Rows
variable {X:Cx}
end L2
namespace L2
open PySem PySem.Spec PyProof.Rows
theorem zt {es:List Expr} {k:Nat} {pos:Pos} {r:List Expr} {env:Env}:AW (.Tuple es k pos :: r) env=(false,eval (.Tuple es k pos) env) :: AW r env:=rfl
theorem aCC {X:Cx} {es:List Expr} {t:TA} {k:Nat} {pos:Pos} (h:Wr (PA X es t)):Wr (PE X (.Tuple es k pos) (tTup t)):=⟨yU h.un⟩
section
variable {X:Cx} {pos:Pos}
end
noncomputable def tEx0 (K:Af) (C:Addr) (ts:TS) (D:Ends):XS:=fun cls dx σ H=>(∃ Ce bm,cls=.ref Ce/\XCls K Ce bm/\(Value.ref Ce :: bm).contains (.ref C)=true)/\ts D σ H
noncomputable def aLk (K:Af) (C:Addr) (tb:XS->TS) (ts:TS):TS:=fun D σ H=>tb (tEx0 K C ts D) D σ H
section
variable {X:Cx} {x:Str} {C:Addr} {bw:List Value} {body suite:List Stmt} {b0:Stmt} {np hp pos:Pos} {tb:XS->TS} {ts:TS}
theorem aJ2 (hg:Gl X x) (hm:X.mg x=some (.ref C)) (hC:XCls X.K C bw) (hst:X.stack=X.env :: X.outer) (hf:X.env.frame=some X.env.locals)
  (hb:∀ EX pins,PSs ((X.pinTo pins).raises EX) body (tb EX)) (hs:∀ e pins,PSs (X.suite (.ref e) pins) (b0 :: suite) ts) (hd:(x == ("__debug__":Str))=false:=by decide) :
  PS X (.Try body [.ExceptHandler (some (.Name x np)) none (b0 :: suite) hp] [] [] pos) (aLk X.K C tb ts):=by
 intro pins s σ H D I h
 have ok:=I.ok
 refine wpAny_Try_except (AT (hb (tEx0 X.K C ts D) pins [] s σ H D (I.pinTo.wish _) h) (fun f s1 q=>?_) fun ev s1 q=>?_)
 ·have q':=SP.unpin q
  cases f with
  | next =>
   show Ar _ _ (execs [] _) _ _ _
   exact (FG q':_)
  | _=>exact q'
 ·have q0:XIn (X.pinTo pins) (tEx0 X.K C ts D) ev s1:=q
  refine aIA (X:=X.pinTo pins) q0.frames hst hf q0 fun s2 q2=>aBN (X:=X.pinTo pins) (.inl rfl) q2 fun s3 q3=>?_
  obtain ⟨e,cls,dx,σ1,H1,rfl,I1,oe,ht,hE⟩:=id q3
  obtain ⟨⟨Ce,bm,rfl,hCe,hmro⟩,hgo⟩:=hE
  obtain ⟨hbB,nm',q',N',bs',hdct',sn',sub',ab',col',dd',l0,l1,l2,l3,l5,newId',lkW⟩:=hC
  obtain ⟨hbC,nm,qn,N,bs,hdct,sn,sub,ab,col,dd,k0,k1,k2,k3,k5,newId,lkC⟩:=hCe
  have ge:∃ oe,s3.heap.get? e=some oe/\oe.cls=.ref Ce:=by
   rcases ht with ⟨_,ob,vs,g1,g2,_⟩ | ⟨T,fl,⟨ob,vs,g1,g2,_⟩,_⟩
   ·exact ⟨ob,g1,g2⟩
   ·exact ⟨ob,g1,g2⟩
  obtain ⟨ob,ge,gc⟩:=ge
  have gW:=I1.kIn C _ lkW
  have gC:=I1.kIn Ce _ lkC
  refine wpAny_handleBy_cons (codeAny_handlers_test (ji (X:=X.suite (.ref e) pins) (I1.insuite (X:=X) (ev:=.ref e)) hg hm ?_ hd)) (by intro z; cases z)
  obtain ⟨h3,g3,d3,t3,os3⟩:=s3
  refine aCv gC gW ge gc hbB hmro ?_
  refine codeAny_handlers_suite (aBN (X:=X.pinTo pins) (.inl rfl) q3 fun s4 q4=>?_)
  obtain ⟨e',cls4,dx4,σ4,H4,ee,I4,oe4,ht4,hE4⟩:=q4
  cases ee
  obtain ⟨_,hgo4⟩:=hE4
  refine AT (hs e pins [] s4 _ _ _ (I4.insuite (X:=X) (ev:=.ref e)) hgo4) (fun f s6 q6=>?_) fun _ _ z=>z.elim
  match f,q6 with
  | .next,⟨σ6,H6,I6,z⟩=>exact ⟨_,H6,(I6.outsuite ok).unpinTo,z⟩
  | .brk,⟨σ6,H6,I6,z⟩=>exact ⟨_,H6,(I6.outsuite ok).unpinTo,z⟩
  | .cont,⟨σ6,H6,I6,z⟩=>exact ⟨_,H6,(I6.outsuite ok).unpinTo,z⟩
  | .ret u,⟨v,σ6,H6,I6,r,z⟩=>exact ⟨v,_,H6,(I6.outsuite ok).unpinTo,r,z⟩
end
section
variable {prog:At} {w:AV} {A:AY} {E:Value->Ad->Prop} {s:Ad}
theorem TupI.keep {h h':Heap} {v:Value} {ns:List Int} {a:Addr} {n:Nat} {us:Array Value} (t:TupI h v ns) (ho:h.get? a=some (Bg "list" us n)) (k:∀ b o,b≠a->h.get? b=some o->h'.get? b=some o):TupI h' v ns:=by
 obtain ⟨b,ws,e,⟨o,e1,e2,e3⟩,i⟩:=t
 refine ⟨b,ws,e,⟨o,k b o (fun z=>?_) e1,e2,e3⟩,i⟩
 subst z
 rw [ho] at e1
 cases e1
 have e4:Dy "list"=Dy "tuple":=e2
 injection e4 with e5
 exact absurd e5 (by decide)
theorem jQ {a:Addr} {vs:List Value} {f:Value->List Int} {n:Nat} {P:PySem.Fin->Ad->Prop} (ho:s.heap.get? a=some (Bg "list" vs.toArray n))
  (hk:∀ v∈vs,TupI s.heap v (f v)/\f v≠[]) (h64:vs.length < 64)
  (h:∀ (arr:Array Ia),arr.toList.Perm (vs.zip vs)->Up (O:=lxO) (fk (O:=lxO) (fun p=>qF s.heap p.1) ([]:List Int) arr) arr.size->P (.done (.ret .none)) { s with heap:=Ig s.heap a vs (arr.map (·.2)) }) :
  Ar (AB prog w) A (Builtin.«list.sort» ⟨[.ref a],[]⟩) P E s:=by
 rw [list_sort_plain]
 have ha:a < s.heap.objs.size:=Ap ho
 refine Aa (Ea ho rfl ?_)
 refine Aa (Du ho rfl ?_)
 obtain ⟨e1,ho1⟩:∃ e1,(s.heap.update a (BB fun _=>#[])).get? a=some (Bg "list" #[] e1):=⟨_,FO ho (fun _=>#[])⟩
 refine Aa (GR ho1 rfl ?_)
 refine Aa (Hx ?_)
 refine Aa (DF ?_)
 refine Bw ?_
 have ho6:(((s.heap.update a (BB fun _=>#[])).push (Bg "tuple" vs.toArray 0)).push (Bg "list" #[] 0)).get? a=some (Bg "list" #[] e1):=by
  rw [Fa _ _ _ (by rw [Gb,Fn]; exact AC (Cn ha)),Fa _ _ _ (by rw [Fn]; exact AC ha)]
  exact ho1
 have kp:∀ b o,b≠a->s.heap.get? b=some o->(((s.heap.update a (BB fun _=>#[])).push (Bg "tuple" vs.toArray 0)).push (Bg "list" #[] 0)).get? b=some o:=fun b o hb e =>
  Ac _ (Ac _ ((AF _ _ (BT hb)).trans e))
 show Ar (AB prog w) A _ P E { s with heap:=((s.heap.update a (BB fun _=>#[])).push (Bg "tuple" vs.toArray 0)).push (Bg "list" #[] 0) }
 dsimp only
 have hsz:vs.toArray.size=vs.length:=by simp
 have a0:(vs.toArray.zip vs.toArray).toList=vs.zip vs:=by simp
 have z0:(vs.toArray.zip vs.toArray).size=vs.length:=by simp
 generalize hg6:((s.heap.update a (BB fun _=>#[])).push (Bg "tuple" vs.toArray 0)).push (Bg "list" #[] 0)=g6 at ho6 kp ⊢
 have hk6:∀ v∈vs,TupI g6 v (f v)/\f v≠[]:=fun v hv=>⟨(hk v hv).1.keep ho kp,(hk v hv).2⟩
 have same:∀ (arr:Array Ia),arr.toList.Perm (vs.zip vs)->fk (O:=lxO) (fun p=>qF g6 p.1) ([]:List Int) arr=fk (O:=lxO) (fun p=>qF s.heap p.1) ([]:List Int) arr:=fun arr hp=>by
  funext i
  unfold fk
  cases e:arr[i]? with
  | none=>rfl
  | some p =>
   have hm:p∈vs.zip vs:=hp.mem_iff.mp (by
    have:p∈arr:=Go e
    exact Ei.mpr this)
   have hm1:p.1∈vs:=(El (show (p.1,p.2)∈vs.zip vs from hm)).1
   show qF g6 p.1=qF s.heap p.1
   rw [yu (hk6 _ hm1).1,yu (hk _ hm1).1]
 by_cases h2:vs.toArray.size < 2
 ·rw [if_pos h2,if_pos h2]
  refine Aa (Ab ?_)
  rw [Mn]
  refine Aa (Ab ?_)
  dsimp only
  refine Aa (GR ho6 rfl ?_)
  refine Aa (Du ho6 rfl ?_ (hsz2:=by rw [HN]; show (vs.toArray.zip vs.toArray).size<=_; rw [z0,Bb]; lia))
  simp only [bne_self_eq_false,BN,if_false]
  refine Ab ?_
  have:=h (vs.toArray.zip vs.toArray) (by rw [a0]) (fun i j hij hj=>by
   have:i=j:=by rw [z0] at hj; lia
   subst this; exact Df _)
  unfold Ig at this
  rw [hg6] at this
  exact this
 ·rw [if_neg h2,if_neg h2]
  refine Aa (aDl (s:={ s with heap:=g6 }) (f:=f) (fun v hv=>hk6 v (by simpa using hv)) fun b=>?_)
  have hk0:∀ p∈(vs.toArray.zip vs.toArray).toList,∃ ns,TupI ({ s with heap:=g6 }:Ad).heap p.1 ns:=fun p hp=>by
   rw [a0] at hp
   exact ⟨_,(hk6 p.1 (El (show (p.1,p.2)∈vs.zip vs from hp)).1).1⟩
  refine Aa (AT (aDj (aFY (s:={ s with heap:=g6 }) b hk0) (by rw [z0]; rw [hsz] at h2; lia) (by rw [z0]; exact h64) (st:=GI (jp b) (vs.toArray.zip vs.toArray) #[] 7 none) ⟨rfl,Jp _,rfl,rfl⟩ (Q:=fun _ st=>(BL st).Perm (vs.toArray.zip vs.toArray)/\GH st=none/\Up (O:=lxO) (fk (O:=lxO) (fun p=>qF g6 p.1) ([]:List Int) (BL st)) (vs.toArray.zip vs.toArray).size) fun st' a b c=>⟨a,b,c⟩) ?_ fun _ _ e=>e)
  rintro ⟨⟨⟩,st⟩ s' ⟨es,hp,hf,up⟩
  have es2:=es.symm
  subst es2
  dsimp only
  have hp':(BL st).toList.Perm (vs.zip vs):=by rw [<- a0]; exact DV.mp hp
  refine Aa (GR ho6 rfl ?_)
  refine Aa (Du ho6 rfl ?_ (hsz2:=by rw [HN,hp.size_eq,z0,Bb]; lia))
  rw [hf]
  simp only [bne_self_eq_false,BN,if_false]
  refine Ab ?_
  rw [same _ hp',<- hp.size_eq] at up
  have:=h (BL st) hp' up
  unfold Ig at this
  rw [hg6] at this
  exact this
theorem aCz {l:Addr} {vs:List Value} {f:Value->List Int} {Q:Value->Ad->Prop} (hl:s.heap.IsList l vs.toArray) (hk:∀ v∈vs,TupI s.heap v (f v)/\f v≠[]) (h64:vs.length < 64)
  (h:∀ (arr:Array Ia),arr.toList.Perm (vs.zip vs)->Up (O:=lxO) (fk (O:=lxO) (fun p=>f p.1) ([]:List Int) arr) arr.size->Q (.ref (s.heap.objs.size + 1)) { s with heap:=sortedAll s.heap vs (arr.map (·.2)) }) :
  Ar (AB prog w) A (call (.builtin "sorted") [.ref l]) Q E s:=by
 refine Eh IC Hn Ho (Ju _) ?_
 unfold Builtin.«sorted»
 refine Aa (m:=JH "sorted" 1 1 _) (Ab ?_)
 refine Aa (collect_list hl ?_)
 refine Aa (DF ?_)
 have hsz:((s.heap.push (Bg "list" #[] 0)).update s.heap.objs.size (BB (·++vs.toArray))).objs.size=s.heap.objs.size + 1:=by
  rw [Fn,Gb]
 have hoL:(((s.heap.push (Bg "list" #[] 0)).update s.heap.objs.size (BB (·++vs.toArray))).push (Bg "list" vs.toArray 0)).get? (s.heap.objs.size + 1)=some (Bg "list" vs.toArray 0):=by
  rw [<- hsz]; exact Ag _ rfl
 show Ar _ _ _ _ _ { s with heap:=((s.heap.push (Bg "list" #[] 0)).update s.heap.objs.size (BB (·++vs.toArray))).push (Bg "list" vs.toArray 0) }
 rw [hsz]
 have kp:∀ b o,s.heap.get? b=some o->(((s.heap.push (Bg "list" #[] 0)).update s.heap.objs.size (BB (·++vs.toArray))).push (Bg "list" vs.toArray 0)).get? b=some o:=fun b o e =>
  Ac _ ((AF _ _ (Cd (Ap e))).trans (Ac _ e))
 have hk2:∀ v∈vs,TupI (((s.heap.push (Bg "list" #[] 0)).update s.heap.objs.size (BB (·++vs.toArray))).push (Bg "list" vs.toArray 0)) v (f v)/\f v≠[]:=fun v hv=>by
  obtain ⟨⟨b,ws,e,⟨o,e1,e2,e3⟩,i⟩,hn⟩:=hk v hv
  exact ⟨⟨b,ws,e,⟨o,kp b o e1,e2,e3⟩,i⟩,hn⟩
 refine Aa (Bw (AN Gi ⟨_,hoL,rfl⟩ FP (jQ (f:=f) hoL hk2 h64 fun arr hp up=>⟨_,rfl,?_⟩) (HP _)))
 refine Ab ⟨_,rfl,h arr hp ?_⟩
 have e:fk (O:=lxO) (fun p=>f p.1) ([]:List Int) arr=fk (O:=lxO) (fun p=>qF (((s.heap.push (Bg "list" #[] 0)).update s.heap.objs.size (BB (·++vs.toArray))).push (Bg "list" vs.toArray 0)) p.1) ([]:List Int) arr:=by
  funext i
  unfold fk
  cases e:arr[i]? with
  | none=>rfl
  | some p =>
   have hm:p∈vs.zip vs:=hp.mem_iff.mp (Ei.mpr (Go e))
   have hm1:p.1∈vs:=(El (show (p.1,p.2)∈vs.zip vs from hm)).1
   show f p.1=qF _ p.1
   rw [yu (hk2 _ hm1).1]
 rw [e]
 exact up
end
section
variable {X:Cx}
theorem aJ3 {xs:List V} (h:∀ x∈xs,∃ t,x=.ref t):∃ ts:List Addr,xs=ts.map V.ref:=by
 induction xs with
 | nil=>exact ⟨[],rfl⟩
 | cons x r ih =>
  obtain ⟨t,rfl⟩:=h x (Am ..)
  obtain ⟨ts,rfl⟩:=ih fun y hy=>h y (Al _ hy)
  exact ⟨t :: ts,rfl⟩
theorem aEV:qW X (.builtin "sorted") (fun vs H Q=>∃ (l:Addr) (xs:List V) (key:V->List Int),vs=[.ref l]/\H l=some (.lst xs)/\xs.length < 64/\(∀ x∈xs,key x≠[]/\∃ t,x=.ref t/\H t=some (.tup ((key x).map V.int))) /\
  ∀ (p:Addr) (ys:List V) (H':Hp),Same H H'->H' p=some (.lst ys)->ys.Perm xs->ys.Pairwise (fun a b=>lx (key b) (key a)=false)->Q (.ref p) H'):=by
 intro pins s σ H vs us Q I r h
 obtain ⟨l,xs,key,rfl,hl,h64,hk,q⟩:=h
 obtain ⟨u,rfl,rx⟩:=jj r
 cases rx
 obtain ⟨its,rv,pl,hz⟩:=I.list (SqL.of hl)
 obtain ⟨ts,rfl⟩:=aJ3 (xs:=xs) fun x hx=>let ⟨_,t,e,_⟩:=hk x hx; ⟨t,e⟩
 have ei:=aAQ rv
 subst ei
 rw [Ah] at h64
 have hkT:∀ t∈ts,TupI s.heap (.ref t) (key (.ref t))/\key (.ref t)≠[]:=fun t ht=>by
  obtain ⟨hne,t',e,ht'⟩:=hk (.ref t) (Kv ht)
  cases e
  obtain ⟨us',r',p',_⟩:=I.tuple (SqT.of ht')
  exact ⟨⟨t,us',rfl,p',yb r'⟩,hne⟩
 refine aCz (f:=fun v=>match v with | .ref t=>key (.ref t) | _=>[]) pl.isList (fun v hv=>?_) (by rw [Ah]; exact h64) fun arr hp up=>?_
 ·obtain ⟨t,ht,rfl⟩:=Bk.mp hv
  exact hkT t ht
 have pr:AH (fun (t:Addr) (x:V)=>t∈ts/\x=.ref t) ts (ts.map V.ref):=by
  have:∀ l:List Addr,(∀ t∈l,t∈ts)->AH (fun (t:Addr) (x:V)=>t∈ts/\x=.ref t) l (l.map V.ref):=by
   intro l
   induction l with
   | nil=>intro _; exact .nil
   | cons a b ih=>intro h; exact .cons ⟨h a (Am ..),rfl⟩ (ih fun t ht=>h t (Al _ ht))
  exact this ts fun t ht=>ht
 obtain ⟨z1,z2,z3⟩:=zip3 pr rv
 have hT:∀ p∈((ts.map Value.ref).zip (ts.map Value.ref)).zip (ts.map V.ref),RelV p.2 p.1.2/\TupI s.heap p.1.1 (key p.2):=fun p hp=>by
  obtain ⟨a1,t,e,hm,ex⟩:=z3 p hp
  rw [e,ex]
  exact ⟨ex ▸ a1,(hkT t hm).1⟩
 have e:fk (O:=lxO) (fun p=>match p.1 with | .ref t=>key (.ref t) | _=>[]) ([]:List Int) arr=fk (O:=lxO) (fun p=>qF s.heap p.1) ([]:List Int) arr:=by
  funext i
  unfold fk
  cases e:arr[i]? with
  | none=>rfl
  | some p =>
   have hm:p∈(ts.map Value.ref).zip (ts.map Value.ref):=hp.mem_iff.mp (Ei.mpr (Go e))
   have hm1:p.1∈ts.map Value.ref:=(El (show (p.1,p.2)∈_ from hm)).1
   obtain ⟨t,ht,et⟩:=Bk.mp hm1
   show (match p.1 with | .ref t=>key (.ref t) | _=>[])=qF s.heap p.1
   rw [<- et,yu (hkT t ht).1]
 obtain ⟨ys,py,vy,wy⟩:=jN (h:=s.heap) (T:=((ts.map Value.ref).zip (ts.map Value.ref)).zip (ts.map V.ref)) (a:=arr) (key:=key) (by rw [z1]; exact hp) hT (by rw [<- e]; exact up)
 rw [z2] at py
 obtain ⟨ep,at1⟩:=sortedAll_at s.heap (ts.map Value.ref) (arr.map (·.2))
 have hf:H (s.heap.objs.size + 1)=none:=I.hok.fresh (CC _)
 have lys:ys.length=ts.length:=by have:=py.length_eq; rw [Ah] at this; exact this
 refine ⟨.ref (s.heap.objs.size + 1),upd H (s.heap.objs.size + 1) (.lst ys),I.laid (t':=s.toks) (fun b o e=>sortedAll_old e) (CC _) ⟨by rw [lys,Bb]; lia,arr.toList.map (·.2),ep,vy,?_⟩,rfl,q _ ys _ (fun b o e=>by rw [zH (zD e hf)]; exact e) zC py wy⟩
 rw [at1]
 show some (Bg "list" _ ep)=some (Bg "list" _ ep)
 congr 2
 apply Fo.mp
 simp
theorem aFh (bs:List Bool):(BQ bs.length).map (fun i=>bs.getD i false)=bs:=by
 apply Gc
 intro i
 rw [AO]
 by_cases h:i < bs.length
 ·rw [GU h,Ax h]
  show some (bs.getD i false)=_
  rw [BR,Ax h]; rfl
 ·rw [Cg (by simpa using h),Cg (by lia)]; rfl
theorem aFi (bs:List Bool):(BQ bs.length).any (fun i=>bs.getD i false)=bs.any id:=by
 have:=congrArg (fun l=>List.any l id) (aFh bs)
 rw [List.any_map] at this
 exact this
theorem aFj:BW "any"=some (.builtin "any"):=by decide +kernel
end
structure ZL (h:Heap) (z ti to i j a b:Addr) (f0:Value) (k:Nat):Prop where
 zz:MQ h z ti to f0
 pi:HZ h ti (.ref i) (.ref j)
 po:∃ x y,HZ h to x y
 ia:h.IsListIter i a k
 jb:h.IsListIter j b k
noncomputable def ItzL (K:Af) (p q:Addr):It :=
  ⟨fun i H=>∃ xs ys x y,SqL K H p xs/\SqL K H q ys/\xs[i]?=some x/\ys[i]?=some y,
   fun i H v H'=>∃ T x y,v=.ref T/\H T=none/\H'=upd H T (.tup [x,y])/\∀ xs ys,SqL K H p xs->SqL K H q ys->xs[i]?=some x/\ys[i]?=some y,
   fun i H=>∃ xs ys,SqL K H p xs/\SqL K H q ys/\(xs.length<=i\/ys.length<=i)⟩
theorem aFk {P:At} {w:AV} {K:Af} {es:List Expr} {kk:Nat} {pos:Pos} (p q z ti to i j:Addr) (D:MR z ti to i j p q) :
  Turn P w K (.Tuple es kk pos) (ItzL K p q) [z,ti,to,i,j] z (fun k h=>ZL h z ti to i j p q .none k) where
 mem:=by simp
 obj:=fun k h st b hb=>by
  obtain ⟨a1,a2,⟨u,v,a3⟩,⟨o4,a4,c4,d4⟩,⟨o5,a5,c5,d5⟩⟩:=st
  simp only [Aj,BF,or_false] at hb
  rcases hb with rfl | rfl | rfl | rfl | rfl
  ·exact ⟨_,a1,fun v e=>by cases e⟩
  ·exact ⟨_,a2,fun v e=>by cases e⟩
  ·exact ⟨_,a3,fun v e=>by cases e⟩
  ·exact ⟨_,a4,fun v e=>by rw [d4] at e; cases e⟩
  ·exact ⟨_,a5,fun v e=>by rw [d5] at e; cases e⟩
 keep:=fun k h h' st kp=>by
  obtain ⟨a1,a2,⟨u,v,a3⟩,a4,a5⟩:=st
  exact ⟨kp z (by simp) _ a1,kp ti (by simp) _ a2,⟨u,v,kp to (by simp) _ a3⟩,a4.at fun o e=>kp i (by simp) o e,a5.at fun o e=>kp j (by simp) o e⟩
 item:=by
  intro X hP hw hK hc k pins s σ H E I hf st hg
  subst hP hw hK
  obtain ⟨xs,ys,x,y,hp,hq,hx,hy⟩:=hg
  obtain ⟨us,ru,pu,_⟩:=I.list hp
  obtain ⟨vs,rv,pv,_⟩:=I.list hq
  obtain ⟨u,eu,r1⟩:=ru.get hx
  obtain ⟨v,ev,r2⟩:=rv.get hy
  obtain ⟨o1,o2,hTO⟩:=id st.po
  refine wpAny_pyNext_zip_item D st.zz st.pi hTO st.ia st.jb pu.isList pv.isList (by simpa using eu) (by simpa using ev) fun g q1 q2 q3 q4 new sz kp=>?_
  have q5:HZ g ti (.ref i) (.ref j):=kp _ _ D.TIz D.TITO D.TIi1 D.TIi2 st.pi
  have Zg:ZL g z ti to i j p q (Dr s.heap.objs.size) (k + 1):=⟨q1,q5,⟨_,_,q2⟩,q3,q4⟩
  refine ⟨_,rfl,?_⟩
  refine Hy Zg.zz fun g' z' b'=>?_
  have fz:=hf z (by simp)
  have fo:=hf to (by simp)
  have fi:=hf i (by simp)
  have fj:=hf j (by simp)
  have nT:H s.heap.objs.size=none:=I.hok.fresh (Ak _)
  have kp':∀ c o,c≠z->c≠to->c≠i->c≠j->s.heap.get? c=some o->g'.get? c=some o:=fun c o n1 n2 n3 n4 e=>b'.extBut _ _ n1 (kp c o n1 n2 n3 n4 e)
  have zne:s.heap.objs.size≠z:=Cd (Ap st.zz)
  have new':HZ g' s.heap.objs.size u v:=b'.extBut _ _ zne new
  have notch:∀ b,b ∉ [z,to,i,j]->b≠z/\b≠to/\b≠i/\b≠j:=fun b hb=>by simpa using hb
  have trk:∀ b o,H b=some o->b≠z/\b≠to/\b≠i/\b≠j:=fun b o e=>⟨zD e fz.1,zD e fo.1,zD e fi.1,zD e fj.1⟩
  have I1:Inv X pins σ (upd H s.heap.objs.size (.tup [x,y])) { s with heap:=g' }:=by
   refine I.step (g':=s.gens) (d':=s.drawn) (t':=s.toks) (ch:=[z,to,i,j]) (fun b hb=>?_) (fun b o _ _ hc e _=>?_) (fun b o _ _ hc e _=>?_) (fun b o hc e n=>?_) (fun b o hc e=>?_) (fun b xs e=>?_) (fun b o u e=>?_) (fun b ps e=>⟨#[],?_⟩) (fun m hm=>?_) (fun b o e=>?_) I.bare
   ·simp only [Aj,BF,or_false] at hb
    rcases hb with rfl | rfl | rfl | rfl
    ·exact ⟨fz.2.2.2.1,fz.2.1,fz.2.2.2.2.1,fz.2.2.2.2.2⟩
    ·exact ⟨fo.2.2.2.1,fo.2.1,fo.2.2.2.2.1,fo.2.2.2.2.2⟩
    ·exact ⟨fi.2.2.2.1,fi.2.1,fi.2.2.2.2.1,fi.2.2.2.2.2⟩
    ·exact ⟨fj.2.2.2.1,fj.2.1,fj.2.2.2.2.1,fj.2.2.2.2.2⟩
   ·obtain ⟨n1,n2,n3,n4⟩:=notch b hc
    exact kp' b o n1 n2 n3 n4 e
   ·obtain ⟨n1,n2,n3,n4⟩:=notch b hc
    exact ⟨o.slots,kp' b o n1 n2 n3 n4 e⟩
   ·rw [zH (AC (Ap e))]; exact n
   ·obtain ⟨n1,n2,n3,n4⟩:=notch b hc
    exact ⟨o,kp' b o n1 n2 n3 n4 e⟩
   ·rw [zH (zD e nT)]; exact e
   ·rw [zH (zD e nT)]; exact e
   ·rw [zH (zD e nT),e]; simp
   ·obtain ⟨o,es,ep,ho,r⟩:=hm
    exact ⟨o,es,ep,kp' _ o (BT fz.2.1) (BT fo.2.1) (BT fi.2.1) (BT fj.2.1) ho,r⟩
   ·by_cases hb:b=s.heap.objs.size
    ·subst hb
     rw [zC] at e
     cases e
     exact ⟨by show 2<=sizeLine; rw [Bb]; decide,[u,v],.cons r1 (.cons r2 .nil),⟨_,new',rfl,0,rfl⟩⟩
    ·rw [zH hb] at e
     refine (I.hok b o e).stay (fun c v' hcc r=>?_) (fun c r=>by rw [zH (zD r nT)]; exact r) fun c xs r=>by rw [zH (zD r nT)]; exact r
     rcases hcc with rfl | hcc
     ·obtain ⟨n1,n2,n3,n4⟩:=trk c o e
      exact kp' c v' n1 n2 n3 n4 r
     ·obtain ⟨n1,n2,n3,n4⟩:=trk c _ hcc
      exact kp' c v' n1 n2 n3 n4 r
  refine ⟨.ref s.heap.objs.size,_,I1,rfl,⟨_,x,y,rfl,nT,rfl,fun xs' ys' h1 h2=>?_⟩,?_,fun b hb=>?_⟩
  ·rw [I.list_inj h1 hp,I.list_inj h2 hq]
   exact ⟨hx,hy⟩
  ·obtain ⟨a1,a2,⟨c1,c2,a3⟩,a4,a5⟩:=Zg
   exact ⟨z',b'.extBut _ _ D.TIz a2,⟨c1,c2,b'.extBut _ _ D.TOz a3⟩,a4.extBut b'.extBut D.i1z,a5.extBut b'.extBut D.i2z⟩
  ·have hb':∃ o,s.heap.get? b=some o:=by
    obtain ⟨a1,a2,⟨c1,c2,a3⟩,⟨o4,a4,_⟩,⟨o5,a5,_⟩⟩:=st
    simp only [Aj,BF,or_false] at hb
    rcases hb with rfl | rfl | rfl | rfl | rfl
    ·exact ⟨_,a1⟩
    ·exact ⟨_,a2⟩
    ·exact ⟨_,a3⟩
    ·exact ⟨_,a4⟩
    ·exact ⟨_,a5⟩
   obtain ⟨o,e⟩:=hb'
   rw [zH (AC (Ap e))]
   exact (hf b hb).1
 done:=by
  intro X hP hw hK hc k pins s σ H E I hf st hg
  subst hP hw hK
  obtain ⟨xs,ys,hp,hq,hend⟩:=hg
  obtain ⟨us,ru,pu,_⟩:=I.list hp
  obtain ⟨vs,rv,pv,_⟩:=I.list hq
  have l1:=ru.length
  have l2:=rv.length
  obtain ⟨o1,o2,hTO⟩:=id st.po
  refine wpAny_pyNext_zip_end (I.ok.hd hc) D st.zz st.pi hTO st.ia st.jb pu.isList pv.isList ?_ fun g kp=>?_
  ·rcases hend with h | h
   ·exact .inl (by simp; lia)
   ·exact .inr (by simp; lia)
  ·refine ⟨rfl,?_⟩
   have fz:=hf z (by simp)
   have fo:=hf to (by simp)
   have fi:=hf i (by simp)
   have fj:=hf j (by simp)
   have notch:∀ b,b ∉ [z,to,i,j]->b≠z/\b≠to/\b≠i/\b≠j:=fun b hb=>by simpa using hb
   have trk:∀ b o,H b=some o->b≠z/\b≠to/\b≠i/\b≠j:=fun b o e=>⟨zD e fz.1,zD e fo.1,zD e fi.1,zD e fj.1⟩
   refine I.step (g':=s.gens) (d':=s.drawn) (t':=s.toks) (ch:=[z,to,i,j]) (fun b hb=>?_) (fun b o _ _ hc e _=>?_) (fun b o _ _ hc e _=>?_) (fun b o hc e n=>n) (fun b o hc e=>?_) (fun b xs e=>e) (fun b o u e=>e) (fun b ps e=>⟨#[],by rw [e]; simp⟩) (fun m hm=>?_) (fun b o e=>?_) I.bare
   ·simp only [Aj,BF,or_false] at hb
    rcases hb with rfl | rfl | rfl | rfl
    ·exact ⟨fz.2.2.2.1,fz.2.1,fz.2.2.2.2.1,fz.2.2.2.2.2⟩
    ·exact ⟨fo.2.2.2.1,fo.2.1,fo.2.2.2.2.1,fo.2.2.2.2.2⟩
    ·exact ⟨fi.2.2.2.1,fi.2.1,fi.2.2.2.2.1,fi.2.2.2.2.2⟩
    ·exact ⟨fj.2.2.2.1,fj.2.1,fj.2.2.2.2.1,fj.2.2.2.2.2⟩
   ·obtain ⟨n1,n2,n3,n4⟩:=notch b hc
    exact kp b o n1 n2 n3 n4 e
   ·obtain ⟨n1,n2,n3,n4⟩:=notch b hc
    exact ⟨o.slots,kp b o n1 n2 n3 n4 e⟩
   ·obtain ⟨n1,n2,n3,n4⟩:=notch b hc
    exact ⟨o,kp b o n1 n2 n3 n4 e⟩
   ·obtain ⟨o,es,ep,ho,r⟩:=hm
    exact ⟨o,es,ep,kp _ o (BT fz.2.1) (BT fo.2.1) (BT fi.2.1) (BT fj.2.1) ho,r⟩
   ·refine (I.hok b o e).stay (fun c v' hcc r=>?_) (fun _ r=>r) fun _ _ r=>r
    rcases hcc with rfl | hcc
    ·obtain ⟨n1,n2,n3,n4⟩:=trk c o e
     exact kp c v' n1 n2 n3 n4 r
    ·obtain ⟨n1,n2,n3,n4⟩:=trk c _ hcc
     exact kp c v' n1 n2 n3 n4 r
 self:=fun _ _ _ _ _ st h=>Gw st.zz h
section
variable {X:Cx} {es:List Expr} {kk:Nat} {tpos:Pos}
noncomputable def aLl (K:Af) (ta:TA):TI:=fun σ H R=>ta σ H fun vs H1=>∃ p q,vs=[.ref p,.ref q]/\(∃ xs,SqL K H1 p xs)/\(∃ ys,SqL K H1 q ys)/\R (ItzL K p q) H1
theorem aFl {a b:Expr} {ta:TA} {p pos:Pos} (hm:X.mg "zip"=none) (ha:PA X [a,b] ta) (hg:Gl X "zip":=by rfl) (hs:AW [a,b] X.env=[(false,eval a X.env),(false,eval b X.env)]:=by rfl) (hs2:AW [b] X.env=[(false,eval b X.env)]:=by rfl) :
  PI X (.Tuple es kk tpos) (.Call (.Name "zip" p) [a,b] [] pos) (aLl X.K ta):=by
 intro pins s σ H R I h
 refine Call_ (qT I hg hm aI7 (Cz (thn (ha pos pins s σ H _ I h) fun us s1 ⟨vs,H1,I1,r1,q1⟩=>?_) (by rw [hs,hs2]) (by rw [hs2]; rfl)))
 obtain ⟨x,y,e,⟨xs,hx⟩,⟨ys,hy⟩,q⟩:=q1
 subst e
 obtain ⟨u,v,rfl,ru,rv⟩:=aF1 r1
 cases ru; cases rv
 obtain ⟨us,_,px,_⟩:=I1.list hx
 obtain ⟨vs,_,py,_⟩:=I1.list hy
 have lx:x < s1.heap.objs.size:=by obtain ⟨_,e,_⟩:=px.isList; exact Ap e
 have ly:y < s1.heap.objs.size:=by obtain ⟨_,e,_⟩:=py.isList; exact Ap e
 refine call_zip_2 px.isList py.isList fun g q1 q2 q3 q4 q5 sz kp=>?_
 have Zg:ZL g (s1.heap.objs.size + 4) (s1.heap.objs.size + 2) (s1.heap.objs.size + 3) s1.heap.objs.size (s1.heap.objs.size + 1) x y .none 0:=⟨q1,q2,⟨_,_,q3⟩,q4,q5⟩
 refine Gw Zg.zz ?_
 refine ⟨_,_,_,_,H1,rfl,I1.kept (t':=s1.toks) kp,aFk x y _ _ _ _ _ (zipApart_new lx ly),Zg,fun b hb=>?_,q⟩
 have hge:s1.heap.objs.size<=b:=by
  simp only [Aj,BF,or_false] at hb
  rcases hb with rfl | rfl | rfl | rfl | rfl <;> lia
 exact I1.fpOk hge (I1.hok.fresh hge)
end
section
variable {prog:At} {w:AV} {A:AY} {E:Value->Ad->Prop} {s:Ad}
theorem aD0 {l:Addr} {us:List Value} {ns:List Int} {Q:Value->Ad->Prop} (hl:s.heap.IsTuple l us.toArray) (hI:EG us ns) (h64:us.length < 64)
  (h:∀ (out:Array Value) (ns':List Int) (g:Heap) (e:Nat),EG out.toList ns'->ns'.Perm ns->ns'.Pairwise (·<=·)->(∀ b o,s.heap.get? b=some o->g.get? b=some o)->g.get? (s.heap.objs.size + 1)=some (Bg "list" out e)->Q (.ref (s.heap.objs.size + 1)) { s with heap:=g }) :
  Ar (AB prog w) A (call (.builtin "sorted") [.ref l]) Q E s:=by
 have szl:=Bb
 refine Eh IC Hn Ho (Ju _) ?_
 unfold Builtin.«sorted»
 refine Aa (m:=JH "sorted" 1 1 _) (Ab ?_)
 refine Aa (aAP hl (by lia) fun g1 k1 z1=>?_)
 refine Aa (DF ?_)
 have gL:(g1.push (Bg "list" us.toArray 0)).get? g1.objs.size=some (Bg "list" us.toArray 0):=Ag _ rfl
 refine Aa (Bw (AN Gi ⟨_,gL,rfl⟩ FP (list_sort_tree gL hI h64 fun out ns' a1 a2 a3=>⟨_,rfl,?_⟩) (HP _)))
 obtain ⟨e,at1⟩:=KU (out:=out) gL
 have old:∀ b o,s.heap.get? b=some o->(Ig (g1.push (Bg "list" us.toArray 0)) g1.objs.size us out).get? b=some o:=fun b o hb=>by
  have hlt:b < g1.objs.size:=Ap (k1 b o hb)
  rw [JZ (AC hlt) (by rw [Gb]; exact Cn hlt),Fa _ _ _ (AC hlt)]
  exact k1 b o hb
 have:=h out ns' _ e a1 a2 a3 old (by rw [<- z1]; exact at1)
 rw [<- z1] at this
 exact Ab ⟨_,rfl,this⟩
end
section
variable {X:Cx}
theorem aD1:qW X (.builtin "sorted") (fun vs H Q=>∃ (l:Addr) (ns:List Int),vs=[.ref l]/\SqT X.K H l (ns.map V.int)/\ns.length < 64 /\
  ∀ (p:Addr) (ns':List Int) (H':Hp),Same H H'->H' p=some (.lst (ns'.map V.int))->ns'.Perm ns->ns'.Pairwise (·<=·)->Q (.ref p) H'):=by
 intro pins s σ H vs us Q I r h
 obtain ⟨l,ns,rfl,hl,h64,q⟩:=h
 obtain ⟨u,rfl,rx⟩:=jj r
 cases rx
 obtain ⟨its,rv,pl,hz⟩:=I.tuple hl
 have len:=rv.length
 rw [Ah] at len
 refine aD0 (show s.heap.IsTuple l its.toArray from pl) (yb rv) (by lia) fun out ns' g ep a1 a2 a3 k1 at1=>?_
 have hf:H (s.heap.objs.size + 1)=none:=I.hok.fresh (CC _)
 have l1:ns'.length=ns.length:=a2.length_eq
 refine ⟨.ref (s.heap.objs.size + 1),upd H (s.heap.objs.size + 1) (.lst (ns'.map V.int)),I.laid (t':=s.toks) k1 (CC _) ⟨by rw [Ah,Bb]; lia,out.toList,ep,qD a1,?_⟩,rfl,q _ ns' _ (fun b o e=>by rw [zH (zD e hf)]; exact e) zC a2 a3⟩
 exact at1
theorem aAR:∀ {a b:List Int},a.Perm b->a.Pairwise (·<=·)->b.Pairwise (·<=·)->a=b
 | [],b,p,_,_=>by rw [p.symm.eq_nil]
 | x :: r,[],p,_,_=>absurd p.length_eq (by simp)
 | x :: r,y :: t,p,ha,hb=>by
  have h1:=AG.mp ha
  have h2:=AG.mp hb
  have e:x=y:=by
   have m1:y∈x :: r:=p.mem_iff.mpr (Am ..)
   have m2:x∈y :: t:=p.mem_iff.mp (Am ..)
   rcases Aj.mp m1 with e | m1
   ·exact e.symm
   ·rcases Aj.mp m2 with e | m2
    ·exact e
    ·exact Mq (h1.1 y m1) (h2.1 x m2)
  subst e
  rw [aAR (List.perm_cons _ |>.mp p) h1.2 h2.2]
end
noncomputable def jR (xs:Array Nat):Prop:=∀ i j,i < j->j < xs.size->xs.getD i 0 < xs.getD j 0
theorem aHK {xs:Array Nat} {i d e:Nat} (h:i < xs.size):xs.getD i d=xs.getD i e:=by
 rw [Ca,Ca,Br h]
 rfl
theorem aBV {xs:Array Nat} {j:Nat} (hr:jR xs):∀ (fuel lo hi:Nat),lo<=hi->hi<=xs.size->hi - lo<=fuel->(∀ i,i < lo->xs.getD i 0 < j)->(∀ i,hi<=i->i < xs.size->j<=xs.getD i 0) ->
  Es xs j fuel lo hi<=xs.size/\(∀ i,i < Es xs j fuel lo hi->xs.getD i 0 < j)/\∀ i,Es xs j fuel lo hi<=i->i < xs.size->j<=xs.getD i 0
 | 0,lo,hi,h1,h2,h3,a,b=>by
  have e:Es xs j 0 lo hi=lo:=by unfold Es; rfl
  rw [e]
  exact ⟨by lia,a,fun i hi'=>b i (by lia)⟩
 | fuel + 1,lo,hi,h1,h2,h3,a,b=>by
  unfold Es
  by_cases hlt:lo < hi
  ·rw [if_pos hlt]
   have m1:(lo + hi) / 2 < hi:=by lia
   have m0:lo<=(lo + hi) / 2:=by lia
   have ms:(lo + hi) / 2 < xs.size:=by lia
   dsimp only
   rw [aHK (e:=0) ms]
   by_cases hc:xs.getD ((lo + hi) / 2) 0 < j
   ·rw [if_pos hc]
    refine aBV hr fuel _ _ (by lia) h2 (by lia) (fun i hi'=>?_) b
    rcases KW (Nat.lt_succ_iff.mp hi') with h | h
    ·exact LL (hr _ _ h ms) hc
    ·rw [h]; exact hc
   ·rw [if_neg hc]
    refine aBV hr fuel _ _ m0 (by lia) (by lia) a (fun i hi' his=>?_)
    rcases KW hi' with h | h
    ·exact Ay (IP hc) (EL (hr _ _ h his))
    ·rw [<- h]; exact IP hc
  ·rw [if_neg hlt]
   exact ⟨by lia,a,fun i hi'=>b i (by lia)⟩
theorem qm {xs:Array Nat} (hr:jR xs) (j:Nat):CH xs j<=xs.size/\(∀ i,i < CH xs j->xs.getD i 0 < j)/\∀ i,CH xs j<=i->i < xs.size->j<=xs.getD i 0 :=
 aBV hr xs.size 0 xs.size (AL _) (Ak _) (by lia) (fun i h=>absurd h (Jn _)) fun i h h'=>absurd h' (by lia)
theorem aEW {xs:Array Nat} (hr:jR xs):CH xs 0=0:=by
 obtain ⟨_,a,_⟩:=qm hr 0
 cases e:CH xs 0 with
 | zero=>rfl
 | succ n=>rw [e] at a; exact absurd (a 0 (LH _)) (Jn _)
theorem aEX {xs:Array Nat} (hr:jR xs) {i:Nat} (hi:i < xs.size):CH xs (xs.getD i 0 + 1)=i + 1:=by
 obtain ⟨p,a,b⟩:=qm hr (xs.getD i 0 + 1)
 rcases Ih (CH xs (xs.getD i 0 + 1)) (i + 1) with h | h | h
 ·have:=b i (by lia) hi; lia
 ·exact h
 ·have h1:=a (i + 1) h
  have h2:=hr i (i + 1) (DC _) (by lia)
  lia
theorem aEY {xs:Array Nat} (hr:jR xs) {j:Nat} (hj:∀ i,i < xs.size->xs.getD i 0≠j):jR (DM xs (CH xs j) j):=by
 obtain ⟨p,a,b⟩:=qm hr j
 generalize CH xs j=q at p a b ⊢
 have sz:(DM xs q j).size=xs.size + 1:=by unfold DM; simp; lia
 have at_:∀ i,i < xs.size + 1->(DM xs q j).getD i 0=if i < q then xs.getD i 0 else if i=q then j else xs.getD (i - 1) 0:=by
  intro i hi
  unfold DM
  simp only [Ca,Array.getElem?_append,Array.getElem?_push,Array.getElem?_extract,Jo,Array.size_extract]
  have m:min q xs.size=q:=FN p
  simp only [m,LG,LC,LF]
  rcases Ih i q with h | h | h
  ·rw [if_pos (show i < q + 1 by lia),if_neg (show ¬ i=q by lia),if_pos h,if_pos h]
  ·subst h
   rw [if_pos (DC _),if_pos rfl,if_neg (BC _),if_pos rfl]
   rfl
  ·rw [if_neg (show ¬ i < q + 1 by lia),if_pos (show i - (q + 1) < xs.size - q by lia),if_neg (show ¬ i < q by lia),if_neg (show ¬ i=q by lia),show q + (i - (q + 1))=i - 1 by lia]
 intro i k hik hk
 rw [sz] at hk
 rw [at_ i (by lia),at_ k hk]
 by_cases h1:i < q
 ·rw [if_pos h1]
  by_cases h2:k < q
  ·rw [if_pos h2]; exact hr i k hik (by lia)
  ·rw [if_neg h2]
   by_cases h3:k=q
   ·rw [if_pos h3]; exact a i h1
   ·rw [if_neg h3]; exact Aw (a i h1) (b (k - 1) (by lia) (by lia))
 ·rw [if_neg h1,if_neg (show ¬ k < q by lia),if_neg (show ¬ k=q by lia)]
  by_cases h3:i=q
  ·rw [if_pos h3]
   have:=b (k - 1) (by lia) (by lia)
   have:=hj (k - 1) (by lia)
   lia
  ·rw [if_neg h3]; exact hr (i - 1) (k - 1) (by lia) (by lia)
theorem aCD (n:Nat):jR (Array.range n):=by
 intro i j hij hj
 rw [Array.size_range] at hj
 simp [Ca,Array.getElem?_range,hj,show i < n by lia]
 lia
structure TabOk (t:Dk):Prop where
 dum:t.dummies=#[]
 rise:jR t.place
 mask:7<=t.mask
theorem aFm (j:Nat):LM #[] j=false:=by unfold LM; simp
theorem aFn {t:Dk} (o:TabOk t) {j:Nat} (h:t.slot j=.empty):∀ i,i < t.place.size->t.place.getD i 0≠j:=by
 intro i hi e
 have hb:CH t.place j=i:=by
  obtain ⟨p,a,b⟩:=qm o.rise j
  rcases Ih (CH t.place j) i with h | h | h
  ·have:=b _ (Ak _) (by lia)
   have:=o.rise _ _ h hi
   lia
  ·exact h
  ·have:=a i h; lia
 unfold MY at h
 dsimp only at h
 rw [hb,if_pos] at h
 ·cases h
 ·rw [Ca,Br hi] at e
  rw [Br hi,<- e]
  simp
theorem aFo (t:Dk) (p:MA):(t.advance p).dummy=p.dummy:=by
 unfold SetTable.advance
 split <;> rfl
theorem aAS {t:Dk} (hd:t.dummies=#[]) {h:Int} {j:Nat} {d:Option Nat}:∀ (fuel:Nat) (p:MA),p.dummy=none->Ii t (fun _=>h + 1) h fuel p=some (.empty j d)->t.slot j=.empty/\d=none
 | 0,p,_,e=>by unfold Ii at e; cases e
 | fuel + 1,p,hp,e=>by
  unfold Ii at e
  cases es:t.slot p.j with
  | empty =>
   rw [es] at e
   dsimp only at e
   injection e with e
   injection e with e1 e2
   rw [<- e1,<- e2]
   exact ⟨es,hp⟩
  | dummy =>
   unfold MY at es
   dsimp only at es
   rw [hd,aFm] at es
   split at es
   ·cases es
   ·simp at es
  | live i =>
   rw [es] at e
   dsimp only at e
   rw [if_neg (by simp; lia)] at e
   exact aAS hd fuel _ (by rw [aFo]; exact hp) e
theorem aEZ {t:Dk} (hd:t.dummies=#[]) {h:Int} {slot:Nat} {wd:Bool} (e:t.freeSlot h=some (slot,wd)):t.slot slot=.empty:=by
 unfold SetTable.freeSlot SetTable.probe at e
 split at e
 ·rename_i j d hq
  obtain ⟨a,b⟩:=aAS hd _ _ rfl hq
  rw [b] at e
  injection e with e
  injection e with e1 _
  rw [<- e1]
  exact a
 ·cases e
theorem qo {t:Dk} {n:Nat} (hn:1<=n):TabOk (t.standIn n):=⟨rfl,aCD n,by show 7<=4 * n + 4; lia⟩
theorem aFp {t:Dk} (o:TabOk t) (es:Array (Int×Value)) (h:Int) (x:Value):TabOk (layNew t es h x).2.1/\(layNew t es h x).2.1.led=t.led:=by
 unfold layNew
 cases e:t.freeSlot h with
 | none=>exact ⟨qo (LH _),rfl⟩
 | some q =>
  obtain ⟨slot,wd⟩:=q
  have hs:=aEZ o.dum e
  have ok':TabOk (t.put slot).1:=by
   refine ⟨?_,aEY o.rise (aFn o hs),o.mask⟩
   show (if LM t.dummies slot then _ else t.dummies)=#[]
   rw [o.dum,aFm]
   rfl
  dsimp only
  have sz:1<=(DM es (t.put slot).2 (h,x)).size:=by unfold DM; simp; lia
  unfold SetTable.orStandIn
  split
  ·exact ⟨ok',rfl⟩
  ·exact ⟨qo sz,rfl⟩
noncomputable def byT (w:AV):Bool:=w.params.followText "set-order"
section
variable {prog:At} {w:AV} {A:AY} {E:Value->Ad->Prop} {s:Ad}
end
section
variable {prog:At} {w:AV} {A:AY} {R:JV->Ad->Prop} {I:Addr} {fp wr:List Addr} {G:Array GE->Array GE->Prop} {n:Nat} {P:Nat->Value->Prop} {St:Nat->Ad->Prop}
end
section
variable {prog:At} {w:AV} {A:AY} {E:Value->Ad->Prop} {s:Ad}
noncomputable def newS (w:AV):Obj:={ cls:=.type "set",dict:=none,data:=.set #[] 0 (.fresh 0 0 (!byT w)) }
theorem aLm (a:Value) {Q₁:Value->Ad->Prop} (h:Q₁ (.ref s.heap.objs.size) { s with heap:=s.heap.push (newS w) }) :
  CA (AB prog w) A (.call (.builtin "set.__new__") ⟨[.type "set",a],[]⟩) (wants Q₁ E) s:=by
 refine DS ?_
 show Ar _ A.in1 (do IS "set.__new__" ⟨[.type "set",a],[]⟩; Jg (.builtin "set.__new__" ⟨[.type "set",a],[]⟩)) _ _ s
 refine Aa (Ey (F.newCall_set_1 a) (Ab ⟨Ec GV _,BS Mr ?_⟩))
 rw [Cq GV _]
 unfold Builtin.«set.__new__» He
 have hsub:=sub_set_self
 obtain ⟨hp,g,d,tk,os⟩:=s
 dsimp only
 wp_walk
 refine BO (Ab ?_)
 dsimp only
 simp only [newObj]
 refine Aa (IE (Ab ?_))
 exact Ab h
end
theorem aFq:∀ (fuel size n:Nat),size<=Gp n fuel size
 | 0,size,n=>by unfold Gp; exact Ak _
 | fuel + 1,size,n=>by
  unfold Gp
  split
  ·have:=aFq fuel (size * 2) n; lia
  ·exact Ak _
theorem aEa (n:Nat):8<=Hr n:=aFq 64 8 n
theorem aD2 {l:List Nat} (h:l.Pairwise (· < ·)):jR l.toArray:=by
 intro i j hij hj
 have hj':j < l.length:=by simpa using hj
 have:=HH.mp h i j (by lia) hj' hij
 simp only [Ca,CY]
 rw [Ax (show i < l.length by lia),Ax hj']
 exact this
theorem aAT {α:Type} (f:Nat->Option α):∀ {l:List Nat},l.Pairwise (· < ·)->((l.filterMap fun j=>(f j).map (j,·)).map (·.1)).Pairwise (· < ·)
 | [],_=>BJ
 | x :: r,h=>by
  obtain ⟨h1,h2⟩:=AG.mp h
  rw [Do]
  cases f x with
  | none=>exact aAT f h2
  | some y =>
   dsimp only [NG]
   rw [AA]
   refine AG.mpr ⟨fun z hz=>?_,aAT f h2⟩
   obtain ⟨p,hp,rfl⟩:=Bk.mp hz
   obtain ⟨j,hj,e⟩:=DY.mp hp
   cases hf:f j with
   | none=>rw [hf] at e; cases e
   | some u=>rw [hf] at e; cases e; exact h1 j hj
theorem aFr {t t':Dk} {hs:Array Int} {n:Nat} {ord:Array Nat} (e:t.relaid hs n=some (t',ord)):TabOk t'/\t'.led=t.led:=by
 unfold SetTable.relaid SetTable.laid at e
 have h8:=aEa n
 cases c:SetTable.layClean (Hr n - 1) hs with
 | none=>rw [c] at e; cases e
 | some owner =>
  rw [c] at e
  cases e
  refine ⟨⟨rfl,aD2 (aAT _ ?_),by show 7<=Hr n - 1; lia⟩,rfl⟩
  exact List.pairwise_lt_range
theorem aD3 {t:Dk} {es:Array (Int×Value)} (h1:1<=es.size) (n:Nat):TabOk (JI t es n).2.1/\(JI t es n).2.1.led=t.led:=by
 unfold JI
 split
 ·rename_i t' ord e
  dsimp only
  split
  ·exact aFr e
  ·exact ⟨qo h1,rfl⟩
 ·exact ⟨qo h1,rfl⟩
noncomputable def SetG (prog:At) (w:AV) (h:Heap) (a:Addr) (ks:List Int):Prop :=
 ∃ o es ep t,h.get? a=some o/\o.ExactSet/\o.data=.set es ep t/\ElemsOf (Ch prog w) es.toList/\(∃ ms:List Int,Vals (ms.map V.int) (es.toList.map (·.2))/\ms.Perm ks)/\ks.Nodup/\es.size < Jv/\t.fits es.size=true/\TabOk t/\t.led=!byT w
section
variable {prog:At} {w:AV} {A:AY} {E:Value->Ad->Prop} {s:Ad}
theorem aFs:∀ {ms:List Int} {vs:List Value} {k:Int},Vals (ms.map V.int) vs->(k∈ms↔∃ tk,DP k tk∈vs)
 | [],_,k,h=>by cases h; simp
 | m :: r,_,k,h=>by
  cases h with
  | @cons _ u _ us a b =>
   obtain ⟨t,rfl⟩:=a
   rw [Aj,aFs b]
   constructor
   ·rintro (rfl | ⟨tk,h⟩)
    ·exact ⟨t,Am ..⟩
    ·exact ⟨tk,Al _ h⟩
   ·rintro ⟨tk,h⟩
    rcases Aj.mp h with h | h
    ·cases h; exact .inl rfl
    ·exact .inr ⟨tk,h⟩
theorem aAU {a b:List V} {u v:List Value}:Vals a u->Vals b v->Vals (a++b) (u++v)
 | .nil,h=>h
 | .cons x r,h=>.cons x (aAU r h)
theorem aCE {us vs:List Value} (p:us.Perm vs):∀ {ms:List Int},Vals (ms.map V.int) vs->∃ ns:List Int,Vals (ns.map V.int) us/\ns.Perm ms:=by
 induction p with
 | nil=>intro ms h; exact ⟨ms,h,Fl _⟩
 | cons x _ ih =>
  intro ms h
  match ms,h with
  | [],h=>cases h
  | m :: r,.cons a b =>
   obtain ⟨ns,h1,h2⟩:=ih b
   exact ⟨m :: ns,.cons a h1,h2.cons m⟩
 | swap x y l =>
  intro ms h
  match ms,h with
  | [],h=>cases h
  | [m],h=>cases h with | cons a b=>cases b
  | m :: m2 :: r,.cons a (.cons b c)=>exact ⟨m2 :: m :: r,.cons b (.cons a c),MB m m2 r⟩
 | trans _ _ ih1 ih2 =>
  intro ms h
  obtain ⟨ns,h1,h2⟩:=ih2 h
  obtain ⟨ns',h3,h4⟩:=ih1 h1
  exact ⟨ns',h3,h4.trans h2⟩
theorem is_int {k:Int} {v:Value}:(Ch prog w).is k v=true↔∃ tk,v=.int k tk:=by
 constructor
 ·intro h
  cases v with
  | int m t =>
   have:=(Ch prog w).inj (.int m t) k m h (Ij _ _ _ _)
   exact ⟨t,by rw [this]⟩
  | _=>exact absurd h (by simp [Ch,Nt])
 ·rintro ⟨tk,rfl⟩; exact Ij _ _ _ _
theorem SetG.keep {h h':Heap} {a:Addr} {ks:List Int} (x:SetG prog w h a ks) (k:∀ o,h.get? a=some o->h'.get? a=some o):SetG prog w h' a ks:=by
 obtain ⟨o,es,ep,t,ho,rest⟩:=x
 exact ⟨o,es,ep,t,k o ho,rest⟩
theorem SetG.len {h:Heap} {a:Addr} {ks:List Int} (x:SetG prog w h a ks):ks.length < 4096:=by
 obtain ⟨o,es,ep,t,ho,hex,hd,hel,⟨ms,hv,hp⟩,nd,hb,rest⟩:=x
 have l1:=hv.length
 simp only [Ah,Bt] at l1
 have l2:=hp.length_eq
 have:Jv=4096:=rfl
 lia
noncomputable def addK (ks:List Int) (k:Int):List Int:=if k∈ks then ks else ks++[k]
theorem jr {ks:List Int} {k:Int} (h:ks.Nodup):(addK ks k).Nodup:=by
 unfold addK
 split
 ·exact h
 ·rename_i c
  exact Gd.mpr ⟨h,by simp,fun a ha b hb=>by rw [Ae.mp hb]; exact fun z=>c (z ▸ ha)⟩
theorem aBW {ks:List Int} {k m:Int}:m∈addK ks k↔m∈ks\/m=k:=by
 unfold addK
 split
 ·rename_i c
  exact ⟨.inl,fun h=>h.elim id fun z=>z ▸ c⟩
 ·rw [Bj,Ae]
theorem aHL (ks:List Int) (k:Int):(addK ks k).length<=ks.length + 1:=by
 unfold addK
 split
 ·lia
 ·rw [Ai]; exact Ak _
theorem aFt {g:Bool->Sem Unit} (hg:∀ (b:Bool) (s₁:Ad) (Q':Unit->Ad->Prop),Q' () s₁->Ar (AB prog w) A (g b) Q' E s₁) {a:Addr} {o:Obj} {es:Array (Int×Value)} {ep:Nat} {t:Dk} (ho:s.heap.get? a=some o) (hd:o.data=.set es ep t) {es1:Array (Int×Value)} {t2:Dk} (hz:es1.size < Jv) (h1:1<=es1.size) (hf2:t2.fits es1.size=true) (ok:TabOk t2) {wasDummy:Bool}
  {R:Option Bool->Ad->Prop} (h:∀ (h':Heap) (es3:Array (Int×Value)) (t3:Dk) (ep3:Nat),Cc a s.heap h'->h'.get? a=some { o with data:=.set es3 ep3 t3 }->es3.toList.Perm es1.toList->t3.fits es3.size=true->TabOk t3->t3.led=t2.led->R (some true) { s with heap:=h' }) :
  Ar (AB prog w) A (do
   storeSet a es1 t2
   if (!wasDummy && t2.tooFull)=true then do
    g (JI t2 es1 (EE es1.size)).2.2
    storeSet a (JI t2 es1 (EE es1.size)).1 (JI t2 es1 (EE es1.size)).2.1
    pure (some true)
   else pure (some true)) R E s:=by
 have sl:=Bb
 have sb:Jv=4096:=rfl
 refine Aa (Lr ho hd ?_ (by lia))
 have hg1:(s.heap.update a (JJ es1 t2)).get? a=some { o with data:=.set es1 (ep + 1) t2 }:=by
  have:=AQ (JJ es1 t2) ho (by rw [Ms es1 t2 hd]; rfl)
  rw [Ms es1 t2 hd] at this
  exact this
 split
 ·have pm:=relayAll_perm t2 es1 (EE es1.size)
  have ft:=relayAll_fits t2 es1 (EE es1.size)
  obtain ⟨ok2,led2⟩:=aD3 (t:=t2) h1 (EE es1.size)
  generalize JI t2 es1 (EE es1.size)=Rl at pm ft ok2 led2 ⊢
  obtain ⟨es2,t3,gave2⟩:=Rl
  dsimp only at pm ft ok2 led2 ⊢
  have sz:es2.size=es1.size:=by rw [<- Bt,pm.length_eq,Bt]
  refine Aa (hg _ _ _ (Aa (Lr hg1 rfl (Ab ?_) (by lia))))
  refine h _ es2 t3 (ep + 1 + 1) ((AX s.heap a (JJ es1 t2)).trans (AX _ a _)) ?_ pm ft ok2 led2
  have:=AQ (JJ es2 t3) hg1 (by rw [Ms es2 t3 rfl]; rfl)
  rw [Ms es2 t3 rfl] at this
  exact this
 ·exact Ab (h _ es1 t2 (ep + 1) (AX s.heap a (JJ es1 t2)) hg1 (Fl _) hf2 ok rfl)
theorem aKU {a:Addr} {ks:List Int} {tk:Nat} {k:Int} {Q:Bool->Ad->Prop} (hS:SetG prog w s.heap a ks) (hn:ks.length + 1 < 4096)
  (h:∀ (h':Heap) (b:Bool),Cc a s.heap h'->SetG prog w h' a (addK ks k)->Q b { s with heap:=h' }) :
  Ar (AB prog w) A (setAddHashed a (.int k tk) ((Ch prog w).hash k)) Q E s:=by
 obtain ⟨o,es,ep,t,ho,hex,hd,hel,⟨ms,hv,hp⟩,nd,hb,hf,ok,hled⟩:=hS
 have sb:Jv=4096:=rfl
 have hsz:es.size=ks.length:=by
  have l1:=hv.length
  simp only [Ah,Bt] at l1
  have l2:=hp.length_eq
  lia
 have hkey:(Ch prog w).is k (.int k tk)=true:=Ij _ _ _ _
 have hsc:(DP k tk).scannable=true:=rfl
 have mem:k∈ks↔∃ e∈es.toList,(Ch prog w).is k e.2=true:=by
  rw [<- hp.mem_iff,aFs hv]
  constructor
  ·rintro ⟨tk,h⟩
   obtain ⟨e,he,h⟩:=Bk.mp h
   exact ⟨e,he,is_int.mpr ⟨tk,h⟩⟩
  ·rintro ⟨e,he,h⟩
   obtain ⟨tk,h⟩:=is_int.mp h
   exact ⟨tk,Bk.mpr ⟨e,he,h⟩⟩
 unfold setAddHashed setAddHashedIn
 refine Bw (Aa (Co ho hd hf ?_))
 dsimp only
 rw [byScan_of hsc hb hel,if_pos rfl]
 unfold setAddByScan
 refine Aa (Aa (CK (Aa (wpAny_setScan_of hkey ho hd hf hel ?_))))
 cases hr:List.findIdx? (fun e=>(Ch prog w).is k e.2) es.toList with
 | some j =>
  dsimp only
  obtain ⟨hj,hpj,_⟩:=List.findIdx?_eq_some_iff_getElem.mp hr
  have hin:k∈ks:=mem.mpr ⟨_,Fp hj,hpj⟩
  refine Ab (Ab ?_)
  refine h s.heap false (Ik a s.heap) ?_
  unfold addK
  rw [if_pos hin]
  exact ⟨o,es,ep,t,ho,hex,hd,hel,⟨ms,hv,hp⟩,nd,hb,hf,ok,hled⟩
 | none =>
  dsimp only
  have hout:k ∉ ks:=fun z=>by
   obtain ⟨e,he,h⟩:=mem.mp z
   have:=List.findIdx?_eq_none_iff.mp hr e he
   rw [h] at this; cases this
  have way:∀ (b:Bool) {s₁:Ad} {Q':Unit->Ad->Prop},Q' () s₁->Ar (AB prog w) A (match b with | true=>rule "set.scan.the-table-gave-way" | false=>pure ()) Q' E s₁:=fun b s₁ Q' hq=>by
   cases b
   ·exact Ab hq
   ·exact CK hq
  have pm:=layNew_perm t es ((Ch prog w).hash k) (.int k tk)
  have ft:=layNew_fits t es ((Ch prog w).hash k) (.int k tk)
  obtain ⟨okL,ledL⟩:=aFp ok es ((Ch prog w).hash k) (.int k tk)
  generalize layNew t es ((Ch prog w).hash k) (.int k tk)=L at pm ft okL ledL ⊢
  obtain ⟨es1,t1,wasDummy,gave⟩:=L
  dsimp only at pm ft okL ledL ⊢
  rw [Ls] at pm
  have sz1:es1.size=es.size + 1:=by rw [<- Bt,pm.length_eq,Ai,Bt]; rfl
  have fin:∀ (t2:Dk),t2.led=t.led->∀ (h':Heap) (es3:Array (Int×Value)) (t3:Dk) (ep3:Nat),Cc a s.heap h'->h'.get? a=some { o with data:=.set es3 ep3 t3 }->es3.toList.Perm es1.toList->t3.fits es3.size=true->TabOk t3->t3.led=t2.led->Q true { s with heap:=h' }:=fun t2 l2 h' es3 t3 ep3 hs hg p3 f3 o3 l3=>by
   have p:=p3.trans pm
   refine h h' true hs ⟨_,es3,ep3,t3,hg,hex,rfl,(hel.push hkey hsc).perm p,?_,jr nd,?_,f3,o3,(l3.trans l2).trans hled⟩
   ·have v2:Vals ((ms++[k]).map V.int) ((es.toList++[((Ch prog w).hash k,DP k tk)]).map (·.2)):=by
     rw [Bh,Bh]
     exact aAU hv (.cons ⟨tk,rfl⟩ .nil)
    obtain ⟨ns,n1,n2⟩:=aCE (p.map (·.2)) v2
    refine ⟨ns,n1,n2.trans ?_⟩
    unfold addK
    rw [if_neg hout]
    exact List.Perm.append_right _ hp
   ·rw [<- Bt,p3.length_eq,Bt,sz1,sb]; lia
  refine Aa (way _ ?_)
  have gw:∀ (b:Bool) (s₁:Ad) (Q':Unit->Ad->Prop),Q' () s₁->Ar (AB prog w) A (match b with | true=>rule "set.scan.the-table-gave-way" | false=>pure ()) Q' E s₁:=fun b s₁ Q' hq=>way b hq
  split
  ·refine Aa ?_
   rw [hashByValue_scannable 8 hsc]
   refine Ab ?_
   refine aFt gw ho hd (by lia) (by lia) ?_ ?_ fun h' es3 t3 ep3 hs hg p3 f3 o3 l3=>?_
   ·exact ft
   ·exact okL
   ·dsimp only
    exact Ab (fin _ ledL h' es3 t3 ep3 hs hg p3 f3 o3 l3)
  ·refine Aa (Ab ?_)
   simp only [↓reduceIte]
   refine aFt gw ho hd (by lia) (by lia) ft okL fun h' es3 t3 ep3 hs hg p3 f3 o3 l3=>?_
   dsimp only
   exact Ab (fin _ ledL h' es3 t3 ep3 hs hg p3 f3 o3 l3)
end
noncomputable def ddI (ns:List Int):List Int:=ns.foldl addK []
theorem aHM (ns:List Int) (k:Int):ddI (ns++[k])=addK (ddI ns) k:=by unfold ddI; rw [CZ]; rfl
theorem aHN {ns:List Int} {i:Nat} {k:Int} (h:ns[i]?=some k):ddI (ns.take (i + 1))=addK (ddI (ns.take i)) k:=by
 rw [Il,h]; exact aHM _ _
theorem aDq:∀ (ns acc:List Int),(ns.foldl addK acc).length<=acc.length + ns.length
 | [],acc=>by simp
 | k :: r,acc=>by
  have h1:=aDq r (addK acc k)
  have h2:=aHL acc k
  rw [Dw,AJ]; lia
theorem aFu (ns:List Int):(ddI ns).length<=ns.length:=by have:=aDq ns []; rw [EO] at this; unfold ddI; lia
theorem aDr {m:Int}:∀ (ns acc:List Int),m∈ns.foldl addK acc↔m∈acc\/m∈ns
 | [],acc=>by simp
 | k :: r,acc=>by
  rw [Dw,aDr r,aBW,Aj,or_assoc]
theorem aJ4 {m:Int} {ns:List Int}:m∈ddI ns↔m∈ns:=by
 unfold ddI
 rw [aDr]
 simp
section
variable {prog:At} {w:AV} {A:AY} {R:JV->Ad->Prop} {I:Addr} {fp wr:List Addr} {G:Array GE->Array GE->Prop} {n:Nat} {P:Nat->Value->Prop} {St:Nat->Ad->Prop}
theorem aKV (W:WalksS prog w A.in1 I fp wr G n P St) (S:Addr) (hSf:S ∉ fp) (ns:List Int) (hval:∀ i v,P i v->∃ k t,v=.int k t/\ns[i]?=some k) (hb:n < 4095) :
  ∀ (k i:Nat) (s:Ad),n - i=k->i<=n->St i s->SetG prog w s.heap S (ddI (ns.take i)) ->
   (∀ s',Moved (S :: wr) G s s'->SetG prog w s'.heap S (ddI (ns.take n))->R (.ok (.ret .none)) s') ->
   CA (AB prog w) A (.builtin "set.update.loop" ⟨[.ref S,.ref I],[]⟩) R s:=by
 have hSw:S ∉ wr:=fun h=>hSf (W.sub _ h)
 have hsub:∀ b∈wr,b∈S :: wr:=fun b hb=>Al _ hb
 intro k
 induction k with
 | zero =>
  intro i s hk hi hst hS hR
  have hin:i=n:=by lia
  subst hin
  refine BS IG ?_
  rw [Cq FS _]
  show Ar _ A.in1 (Dq (.ref I) >>= _) _ _ s
  refine Aa (W.done s _ _ hst fun s' hm=>?_)
  show Ar _ A.in1 (ret BY) _ _ s'
  exact Ab (hR s' (hm.mono hsub) (hS.keep fun o e=>hm.heap S _ hSw e))
 | succ k ih =>
  intro i s hk hi hst hS hR
  have hlt:i < n:=by lia
  refine BS IG ?_
  rw [Cq FS _]
  show Ar _ A.in1 (Dq (.ref I) >>= _) _ _ s
  refine Aa (W.item i s _ _ hlt hst fun v s' hP hst' hm=>?_)
  obtain ⟨z,t,rfl,hz⟩:=hval i v hP
  have hS':SetG prog w s'.heap S (ddI (ns.take i)):=hS.keep fun o e=>hm.heap S _ hSw e
  show Ar _ A.in1 (Iq [DP z t] (setAdd S (.int z t)) >>= _) _ _ s'
  refine Aa (Bw ?_)
  unfold setAdd
  refine Bw (Aa ((Ch prog w).pyHash (k:=z) (Ij _ _ _ _) ?_))
  refine aKU (s:={ s' with toks:=s'.toks + 1 }) hS' (by have:=aFu (ns.take i); rw [Bz] at this; lia) fun h' b hsb hS2=>?_
  rw [<- aHN hz] at hS2
  refine Ab ⟨Ec FS _,ih (i + 1) _ (by lia) hlt (W.frame _ s' _ _ hst' (CC _) fun b hb o e=>?_) hS2 fun s'' hm'' hS''=>?_⟩
  ·rw [hsb.2 b (fun h:b=S=>hSf (by rw [<- h]; exact hb))]; exact e
  ·refine hR s'' (Moved.trans W.gtrans ((hm.mono hsub).then_heap (CC _) fun b o hb e=>?_) hm'') hS''
   rw [hsb.2 b (fun h:b=S=>hb (by rw [h]; exact Am))]; exact e
end
section
variable {prog:At} {w:AV} {A:AY} {E:Value->Ad->Prop} {s:Ad}
theorem aFv {h:Heap} {a:Addr} (e:h.get? a=some (newS w)):SetG prog w h a (ddI []) :=
 ⟨_,#[],0,_,e,⟨rfl,rfl,rfl⟩,rfl,fun x hx=>by simp at hx,⟨[],.nil,Fl _⟩,Dc,by decide,rfl,⟨rfl,fun i j _ hj=>by simp [SetTable.fresh] at hj,Ak _⟩,rfl⟩
theorem aLn {l:Addr} {items:Array Value} {ns:List Int} {Q:Value->Ad->Prop}
  (hh:A.handled=none) (hl:s.heap.IsList l items) (hi:∀ (i:Nat) (v:Value),items[i]?=some v->∃ k t,v=.int k t/\ns[i]?=some k) (hb:items.size < 4095) (hns:ns.length=items.size)
  (h:∀ (h':Heap) (tk:Nat),SetG prog w h' s.heap.objs.size (ddI ns)->(∀ b o,b < s.heap.objs.size->s.heap.get? b=some o->h'.get? b=some o)->Q (.ref s.heap.objs.size) { s with heap:=h',toks:=tk }) :
  Ar (AB prog w) A (call (.type "set") [.ref l]) Q E s:=by
 obtain ⟨c,tl,hmro⟩:=CD.mro
 have hmade:=CD.made
 have hsub:=CD.sub
 refine Fx (DS ?_)
 show Ar _ _ (callAny (.type "set") _) _ _ _
 refine Ab ⟨DB _ (by decide +kernel),BS Lu ?_⟩
 rw [KY (Jw "set" [.ref l] []) rfl]
 have h1:=CD.notType
 have h2:=CD.canCreate
 have hct:=F.typeCall_set_1 (.ref l)
 repeat (any_goals (first | assumption | wp_step))
 refine Dh (aLm (.ref l) (E:=E) (Q₁:=fun obj s₁=>obj=.ref s.heap.objs.size/\s₁={ s with heap:=s.heap.push (newS w) }) ⟨rfl,rfl⟩) fun r s₁ hr=>?_
 cases r with
 | error e=>exact hr
 | ok fl =>
  cases fl with
  | ret obj =>
   obtain ⟨rfl,rfl⟩:=hr
   have hS:(s.heap.push (newS w)).get? s.heap.objs.size=some (newS w):=Ag _ rfl
   have hT:IH { s with heap:=s.heap.push (newS w) } (.ref s.heap.objs.size) "set":=⟨_,hS,rfl⟩
   have hli:=CD.init.lookup
   have hbi:=CD.init.bind (.ref s.heap.objs.size)
   repeat (any_goals (first | assumption | wp_step))
   refine Dh (Fc (R:=wants (fun r s₂=>r=.none/\∃ h' tk,s₂={ s with heap:=h',toks:=tk }/\SetG prog w h' s.heap.objs.size (ddI ns) /\
     (∀ b o,b < s.heap.objs.size->s.heap.get? b=some o->h'.get? b=some o)) E) CD.init.plain LU (check_set_init_1 hT ?_)) fun r₂ s₂ hr₂=>?_
   ·obtain ⟨ol,hol,hcl,nl,hdl⟩:=hl
    obtain ⟨ocls,odict,odata,oslots⟩:=ol
    simp only at hcl hdl
    subst hcl; subst hdl
    have hol':(s.heap.push (newS w)).get? l=some { cls:=.type "list",dict:=odict,data:=.seq items nl,slots:=oslots }:=Ac _ hol
    have hsls:=F.sub_list_set
    have hslf:=F.sub_list_frozenset
    have hne:(Dy "list" == Dy "dict")=false:=by decide
    have hl1:(s.heap.push (newS w)).IsList l items:=⟨_,hol',rfl,nl,rfl⟩
    unfold Builtin.«set.__init__» noKeywords Builtin.Frozenset.updateFrom
    generalize hPI:FH=PI
    wp_walk
    subst hPI
    refine HW hl1 (Aa (Hz ?_))
    have hlS:l < s.heap.objs.size:=Ap hol
    have hh3:A.in1.in1.in1.handled=none:=by simp [hh]
    have zN:(s.heap.push (newS w)).objs.size=s.heap.objs.size + 1:=Bo _ _
    have hneI:l≠(s.heap.push (newS w)).objs.size:=by rw [zN]; exact AC (Cn hlS)
    have hSf:s.heap.objs.size ∉ [(s.heap.push (newS w)).objs.size,l]:=by
     rw [zN]
     simp only [Aj,BF,or_false,not_or]
     exact ⟨AC (DC _),Cd hlS⟩
    refine aKV ((NH hh3 _ l hneI items).toS) s.heap.objs.size hSf ns hi hb (items.size - 0) 0 _ (by lia) (AL _) ⟨⟨_,Ag _ rfl,rfl,rfl⟩,(hl1.push _)⟩ ?hS0 ?hR
    case hS0=>rw [CI]; exact aFv (Ac _ hS)
    case hR =>
     intro s' hm hS'
     obtain ⟨h',g',d',tk',os'⟩:=s'
     have eg:g'=s.gens:=hm.gens
     have ed:d'=s.drawn:=hm.drawn
     have eo:os'=s.os:=hm.os
     subst eg; subst ed; subst eo
     rw [<- hns,AE] at hS'
     show Ar _ _ _ _ _ _
     refine Ab ?_
     show Ar _ _ (ret BY) _ _ _
     refine Ab ⟨rfl,h',tk',rfl,hS',fun b o hb e=>?_⟩
     exact hm.heap b o (by rw [zN]; simp only [Aj,BF,or_false,not_or]; exact ⟨AC hb,AC (Cn hb)⟩) (Ac _ (Ac _ e))
   ·cases r₂ with
    | error e=>exact hr₂
    | ok fl₂ =>
     cases fl₂ with
     | ret r =>
      obtain ⟨rfl,h',tk,rfl,hS',hk'⟩:=hr₂
      repeat (any_goals (first | assumption | wp_step))
      exact h _ _ hS' hk'
     | _=>exact hr₂.elim
  | _=>exact hr.elim
end
noncomputable def SIter (h:Heap) (it a:Addr) (first:Value) (i n ep:Nat):Prop:=∃ o,h.get? it=some o/\o.cls=.type "set_iterator"/\o.data=.fields #[first,.int i 0,.ref a,.int n 0,.int ep 0]
theorem SIter.typeIs {s:Ad} {it a:Addr} {first:Value} {i n ep:Nat} (x:SIter s.heap it a first i n ep):s.TypeIs (.ref it) "set_iterator":=by
 obtain ⟨o,h1,h2,_⟩:=x
 exact ⟨o,h1,h2⟩
theorem slot_si_next:Slot "set_iterator" "__next__" "set_iterator.__next__" :=
 .of (owner:="set_iterator") (n:="__next__") (by rw [typeLookup_type,Jx]; kernel_rfl) (by decide +kernel) (by decide +kernel) (by decide +kernel)
  (by first | exact .inl (by decide +kernel) | exact .inr (by decide +kernel)) (by rw [Ka]; kernel_rfl)
theorem yF:MZ table "set_iterator.__next__"=some Builtin.«set_iterator.__next__»:=entryFor_of_fast (by kernel_rfl)
theorem yW (a:Value):Ib "set_iterator.__next__" ⟨[a],[]⟩:=by unfold Ib; kernel_rfl
section
variable {prog:At} {w:AV} {A:AY} {E:Value->Ad->Prop} {s:Ad}
theorem aEb {it a:Addr} {slot i n ep:Nat} {o:Obj} {es:Array (Int×Value)} {t:Dk} {x:Int×Value} {Q:Option Value->Ad->Prop} (hit:SIter s.heap it a (.int slot 0) i n ep) (ho:s.heap.get? a=some o) (hd:o.data=.set es ep t) (hf:t.fits es.size=true) (hn:es.size=n)
  (hbt:byT w=false) (hdr:(!t.plain && decide (es.size > 1))=false) (hled:t.led=true) (hx:es[i]?=some x) (hb:CH t.place slot=i)
  (hQ:∀ h',SIter h' it a (.int ((t.place.getD i 0 + 1:Nat):Int) 0) (i + 1) n ep->Cc it s.heap h'->Q (some x.2) { s with heap:=h' }):Ar (AB prog w) A (Dq (.ref it)) Q E s:=by
 obtain ⟨oi,hoi,hci,hdi⟩:=id hit
 have hi:i < es.size:=(Dj.mp hx).1
 have hp:t.place.size=es.size:=by
  simp only [Na,AD,beq_iff_eq] at hf
  exact hf.1
 unfold Dq
 refine Aa (CT (Bl (name:=CW "__next__") hit.typeIs slot_si_next (AN slot_si_next hit.typeIs yF ?_ (yW _))))
 show Ar _ _ (Me (.ref it) >>= _) _ _ s
 refine Aa (DH hoi hdi ?_)
 dsimp only
 refine Aa (Dp ho hd hf ?_)
 rw [hn]
 simp only [bne_self_eq_false,BN,if_false]
 unfold NB
 refine Aa (Aa (Co ho hd hf ?_))
 dsimp only
 unfold GJ
 refine Aa (Aa (BO (Ab ?_)))
 rw [if_neg (fun e=>by have e2:byT w=true:=e; rw [hbt] at e2; cases e2)]
 rw [if_neg (fun e=>by have e2:(!t.plain && decide (es.size > 1))=true:=e; rw [hdr] at e2; cases e2)]
 refine Aa ?_
 show Ar _ _ (if (!t.led && !es.isEmpty)=true then IB "set:maker-not-led" else pure ()) _ _ _
 rw [hled,if_neg (by simp)]
 refine Ab ?_
 have hpi:t.place[i]?=some (t.place.getD i 0):=by
  have:i < t.place.size:=by lia
  rw [Ca,Br this]
  rfl
 simp only [BZ,hb,hx,hpi]
 refine Ab ?_
 dsimp only
 refine Aa (CG hoi hdi (by simp) ?_)
 have ho2:=AQ (Ez fun vs=>vs.setIfInBounds 0 (Dr ((t.place.getD i 0 + 1:Nat):Int))) hoi (Cf (Bv hdi _))
 have hd2:(Ez (fun vs=>vs.setIfInBounds 0 (Dr ((t.place.getD i 0 + 1:Nat):Int))) oi).data=.fields #[.int ((t.place.getD i 0 + 1:Nat):Int) 0,.int i 0,.ref a,.int n 0,.int ep 0]:=by
  rw [Bv hdi]
  rfl
 refine Aa (CG ho2 hd2 (by simp) (Ab ⟨_,rfl,Ab (hQ _ ?_ ((AX ..).trans (AX ..)))⟩))
 exact ⟨_,AQ _ ho2 (Cf (Bv hd2 _)),(DK ..).trans ((DK ..).trans hci),by rw [Bv hd2]; rfl⟩
end
theorem aFw {α:Type} (next:Nat->Nat):∀ (fuel k:Nat) (left:List α) (out:Array α),left.length=fuel->(Di next fuel k left out).size=out.size + left.length/\∀ x∈Di next fuel k left out,x∈out\/x∈left
 | 0,k,left,out,h=>by
  have e:Di next 0 k left out=out:=by unfold Di; rfl
  rw [e]
  exact ⟨by lia,fun x hx=>.inl hx⟩
 | fuel + 1,k,left,out,h=>by
  have lt:next k % left.length < left.length:=MM _ (by lia)
  have e:Di next (fuel + 1) k left out=Di next fuel (k + 1) (left.eraseIdx (next k % left.length)) (out.push left[next k % left.length]):=by
   rw [Di,Ax lt]
  have le:(left.eraseIdx (next k % left.length)).length=fuel:=by rw [Fb lt]; lia
  obtain ⟨a,b⟩:=aFw next fuel (k + 1) (left.eraseIdx (next k % left.length)) (out.push left[next k % left.length]) le
  rw [e]
  refine ⟨by rw [a,Jo]; lia,fun x hx=>?_⟩
  rcases b x hx with h | h
  ·rcases Array.mem_push.mp h with h | h
   ·exact .inl h
   ·exact .inr (by rw [h]; exact Fp lt)
  ·exact .inr (List.mem_of_mem_eraseIdx h)
theorem aFx {α:Type} (next:Nat->Nat) (xs:Array α):(FT next xs).size=xs.size/\∀ x∈FT next xs,x∈xs.toList:=by
 unfold FT
 obtain ⟨a,b⟩:=aFw next xs.size 0 xs.toList #[] (by simp)
 refine ⟨by rw [a]; simp,fun x hx=>?_⟩
 rcases b x hx with h | h
 ·simp at h
 ·exact h
section
variable {prog:At} {w:AV} {A:AY} {E:Value->Ad->Prop} {s:Ad}
theorem aFy {M:Ky} {α:Type} {c:Prop} [Decidable c] {p q:Sem α} {R:α->Ad->Prop} (h:c) (k:Ar M A p R E s):Ar M A (if c then p else q) R E s:=by rw [if_pos h]; exact k
theorem aAV {M:Ky} {α:Type} {c:Prop} [Decidable c] {p q:Sem α} {R:α->Ad->Prop} (h:¬ c) (k:Ar M A q R E s):Ar M A (if c then p else q) R E s:=by rw [if_neg h]; exact k
theorem aEc {it a tp:Addr} {i n ep p nt:Nat} {o ot:Obj} {es:Array (Int×Value)} {t:Dk} {x:Int×Value} {places:Array Value} {Q:Option Value->Ad->Prop} (hit:SIter s.heap it a (.ref tp) i n ep) (ho:s.heap.get? a=some o) (hd:o.data=.set es ep t) (hf:t.fits es.size=true) (hn:es.size=n)
  (hot:s.heap.get? tp=some ot) (hdt:ot.data=.seq places nt) (hp:places[i]?=some (.int p 0)) (hx:es[p]?=some x)
  (hQ:∀ h',SIter h' it a (.ref tp) (i + 1) n ep->Cc it s.heap h'->Q (some x.2) { s with heap:=h' }):Ar (AB prog w) A (Dq (.ref it)) Q E s:=by
 obtain ⟨oi,hoi,hci,hdi⟩:=id hit
 unfold Dq
 refine Aa (CT (Bl (name:=CW "__next__") hit.typeIs slot_si_next (AN slot_si_next hit.typeIs yF ?_ (yW _))))
 show Ar _ _ (Me (.ref it) >>= _) _ _ s
 refine Aa (DH hoi hdi ?_)
 dsimp only
 refine Aa (Dp ho hd hf ?_)
 rw [hn]
 simp only [bne_self_eq_false,BN,if_false]
 refine Aa (CF hot hdt ?_)
 simp only [BZ,hp]
 unfold setNextDrawn
 refine Aa (Aa (Co ho hd hf ?_))
 dsimp only
 refine aAV (by simp) ?_
 rw [hx]
 refine Ab ?_
 refine Aa (CG hoi hdi (by simp) (Ab ⟨_,rfl,Ab (hQ _ ?_ (AX ..))⟩))
 exact ⟨_,AQ _ hoi (Cf (Bv hdi _)),(DK ..).trans hci,by rw [Bv hdi]; rfl⟩
theorem aKW {it a:Addr} {first:Value} {i n ep:Nat} {o:Obj} {es:Array (Int×Value)} {t:Dk} {Q:Option Value->Ad->Prop} (hh:A.handled=none) (hit:SIter s.heap it a (.int first' 0) i n ep) (ho:s.heap.get? a=some o) (hd:o.data=.set es ep t) (hf:t.fits es.size=true) (hn:es.size=n)
  (hnone:∀ R:Option (Value×Nat)->Ad->Prop,R none s->Ar (AB prog w) A.in1 (NB a (first':Int).toNat (i:Int).toNat (ep:Int).toNat) R (fun e s'=>Ar (AB prog w) A (do if (<- ML e (.type "StopIteration")) then pure none else throw e) Q E s') s)
  (hQ:∀ h',Iy it s.heap h'->Q none { s with heap:=h' }):Ar (AB prog w) A (Dq (.ref it)) Q E s:=by
 obtain ⟨oi,hoi,hci,hdi⟩:=id hit
 unfold Dq
 refine Aa (CT (Bl (name:=CW "__next__") hit.typeIs slot_si_next (AN slot_si_next hit.typeIs yF ?_ (yW _))))
 show Ar _ _ (Me (.ref it) >>= _) _ _ s
 refine Aa (DH hoi hdi ?_)
 dsimp only
 refine Aa (Dp ho hd hf ?_)
 rw [hn]
 simp only [bne_self_eq_false,BN,if_false]
 refine Aa (hnone _ ?_)
 dsimp only
 refine Aa (CG hoi hdi (by simp) ?_)
 show Ar _ _ (Mk (.type "StopIteration") [] >>= _) _ _ _
 refine Aa ?_
 simp only [Mk,KO]
 refine Aa (Bd ?_ (by size_fits))
 refine Aa (m:=Ef _ _) (Ey (a:=BY) (by first | rfl | (simp only [Ef]; rfl)) ?_)
 refine Bd ?_ (by size_fits)
 simp only [Mc]
 refine Aa (GG ?_)
 rw [show A.in1.handled=none from hh]
 refine Aa (Ab (Iz ?_))
 refine Aa (DW (T:="StopIteration") (b:=true) ⟨_,Ag _ rfl,rfl⟩ Gh ?_)
 exact Ab (hQ _ (((AX ..).extBut.push _).push _))
end
theorem yw:Slot "set_iterator" "__iter__" "set_iterator.__iter__" :=
 .of (owner:="set_iterator") (n:="__iter__") (by rw [typeLookup_type,Jx]; kernel_rfl) (by decide +kernel) (by decide +kernel) (by decide +kernel)
  (by first | exact .inl (by decide +kernel) | exact .inr (by decide +kernel)) (by rw [Ka]; kernel_rfl)
theorem jS:MZ table "set_iterator.__iter__"=some Builtin.«dict_keyiterator.__iter__» :=
 entryFor_alias (id':="dict_keyiterator.__iter__") (by kernel_rfl) rfl (by decide +kernel) (by kernel_rfl)
theorem aA5 (a:Value):Ib "set_iterator.__iter__" ⟨[a],[]⟩:=by unfold Ib; kernel_rfl
theorem qy:MZ table "set.__iter__"=some Builtin.«frozenset.__iter__» :=
 entryFor_alias (id':="frozenset.__iter__") (by kernel_rfl) rfl (by decide +kernel) (by kernel_rfl)
theorem jT (a:Value):Ib "set.__iter__" ⟨[a],[]⟩:=by unfold Ib; kernel_rfl
section
variable {prog:At} {w:AV} {A:AY} {E:Value->Ad->Prop} {s:Ad}
theorem aIE {r:Addr} {Q:Bool->Ad->Prop} (hT:s.TypeIs (.ref r) "set") (h:Q false s):Ar (AB prog w) A (ES (.ref r)) Q E s:=by
 unfold ES
 refine Aa (ET hT PySem.F.slot_set_len.lookup ?_)
 generalize hid:("set.__len__":String)=id0
 wp_delta
 rw [show splitId id0=some ("set","__len__") from by subst hid; decide +kernel]
 subst hid
 refine Aa (DW (T:="set") (b:=true) hT (by rw [Ka]; kernel_rfl) ?_)
 refine Jy (fun hab=>absurd hab (by decide)) (fun _=>?_)
 refine Jy (fun _=>?_) (fun hab=>absurd (by decide +kernel) hab)
 refine Aa (FA hT ?_)
 exact Ab h
noncomputable def aLo (a:Addr) (n ep:Nat):Obj:={ cls:=.type "set_iterator",data:=.fields #[.int ((0:Nat):Int) 0,.int ((0:Nat):Int) 0,.ref a,.int n 0,.int ep 0] }
end
end L2
namespace L2
open PySem PySem.Spec PyProof.Rows PySem.W
section
variable {prog:At} {w:AV} {A:AY} {E:Value->Ad->Prop} {s:Ad}
theorem aKX {R:JV->Ad->Prop} {T:String} {S r d:Addr} {n:Nat} {P:Nat->Value->Prop} {OK:Heap->Prop} (K:KdlSrc prog w T r d n P OK) (hh:A.handled=none) (hok:OK s.heap) (hSr:S≠r) (hSd:S≠d) (hS:s.heap.get? S=some { cls:=.type "list",data:=.seq #[] 0 }) (hn:n<=sizeLine)
  (hR:∀ h' tk acc' c',(∀ b o,b≠S->s.heap.get? b=some o->h'.get? b=some o)->h'.get? S=some { cls:=.type "list",dict:=none,data:=.seq acc' c',slots:=#[] }->ItemsOf P acc' n->R (.ok (.ret (.ref S))) { s with heap:=h',toks:=tk }) :
  CA (AB prog w) A (.builtin "list.__iadd__" ⟨[.ref S,.ref r],[]⟩) R s:=by
 refine BS IR ?_
 rw [Cq II _]
 exact kdl_extend K hh hok S hSr hSd (.ref S) 0 hS hR hn
end
theorem js {α:Type}:∀ (l:List α) (i:Nat) (h:i < l.length),(l[i] :: l.eraseIdx i).Perm l
 | x :: r,0,h=>Fl _
 | x :: r,i + 1,h=>(MB x _ _).trans ((js r i (by simpa using h)).cons x)
theorem aDs {α:Type} (next:Nat->Nat):∀ (fuel k:Nat) (left:List α) (out:Array α),left.length=fuel->(Di next fuel k left out).toList.Perm (out.toList++left)
 | 0,k,left,out,h=>by
  have e:Di next 0 k left out=out:=by unfold Di; rfl
  have el:left=[]:=EB h
  rw [e,el,AM]
 | fuel + 1,k,left,out,h=>by
  have lt:next k % left.length < left.length:=MM _ (by lia)
  have e:Di next (fuel + 1) k left out=Di next fuel (k + 1) (left.eraseIdx (next k % left.length)) (out.push left[next k % left.length]):=by
   rw [Di,Ax lt]
  have le:(left.eraseIdx (next k % left.length)).length=fuel:=by rw [Fb lt]; lia
  have p:=aDs next fuel (k + 1) (left.eraseIdx (next k % left.length)) (out.push left[next k % left.length]) le
  rw [e]
  refine p.trans ?_
  rw [Ls,By]
  exact Jz _ (js _ _ lt)
theorem aFz {α:Type} (next:Nat->Nat) (xs:Array α):(FT next xs).toList.Perm xs.toList:=by
 unfold FT
 have:=aDs next xs.size 0 xs.toList #[] (by simp)
 simpa using this
section
variable {prog:At} {w:AV} {A:AY} {E:Value->Ad->Prop} {s:Ad}
theorem aEd {M:Ky} {src:Source} {n:Nat} {Q:Nat->Ad->Prop} (hn:n≠0) (h:∀ i d',i < n->Q i { s with drawn:=d' }):Ar M A (choose src n) Q E s :=
 fun Γ p hΓ=>⟨hn,h _ _ (MM _ (Nat.pos_of_ne_zero hn))⟩
theorem aDt {M:Ky} {α:Type}:∀ (n:Nat) (xs:List α) {s:Ad} {Q:List α->Ad->Prop},xs.length=n->(∀ ys d',ys.Perm xs->Q ys { s with drawn:=d' })->Ar M A (No n xs) Q E s
 | 0,xs,s,Q,hl,h=>by
  have:xs=[]:=EB hl
  subst this
  unfold No
  exact Ab (h [] s.drawn (Fl _))
 | n + 1,[],s,Q,hl,h=>by simp at hl
 | n + 1,x :: r,s,Q,hl,h=>by
  unfold No
  refine Aa (aEd (by simp) fun i d' hi=>?_)
  rw [Ax hi]
  dsimp only
  refine Aa (aDt n ((x :: r).eraseIdx i) (s:={ s with drawn:=d' }) (by rw [Fb hi]; lia) fun ys d2 p=>?_)
  exact Ab (h _ d2 ((p.cons _).trans (js _ _ hi)))
theorem aEe {it a:Addr} {slot i n ep:Nat} {o:Obj} {es:Array (Int×Value)} {t:Dk} {x:Int×Value} {Q:Option Value->Ad->Prop} (hit:SIter s.heap it a (.int slot 0) i n ep) (ho:s.heap.get? a=some o) (hd:o.data=.set es ep t) (hf:t.fits es.size=true) (hn:es.size=n)
  (hbt:byT w=true) (hx:(FT (w.params.setOrder a ep) es)[i]?=some x)
  (hQ:∀ h',SIter h' it a (.int slot 0) (i + 1) n ep->Cc it s.heap h'->Q (some x.2) { s with heap:=h' }):Ar (AB prog w) A (Dq (.ref it)) Q E s:=by
 obtain ⟨oi,hoi,hci,hdi⟩:=id hit
 unfold Dq
 refine Aa (CT (Bl (name:=CW "__next__") hit.typeIs slot_si_next (AN slot_si_next hit.typeIs yF ?_ (yW _))))
 show Ar _ _ (Me (.ref it) >>= _) _ _ s
 refine Aa (DH hoi hdi ?_)
 dsimp only
 refine Aa (Dp ho hd hf ?_)
 rw [hn]
 simp only [bne_self_eq_false,BN,if_false]
 unfold NB setWalk
 refine Aa (Aa (Co ho hd hf ?_))
 dsimp only
 unfold GJ
 refine Aa (Aa (BO (Ab ?_)))
 refine aFy hbt (aAV (by simp) ?_)
 refine Aa (Aa (Co ho hd hf ?_))
 dsimp only
 refine Aa (Aa (BO (Ab ?_)))
 refine aFy hbt ?_
 refine Aa (BO (Ab ?_))
 have hx':(FT ((AB prog w).w.params.setOrder a ep) es)[i]?=some x:=hx
 simp only [BZ]
 rw [hx']
 refine Ab ?_
 dsimp only [NG]
 refine Aa (CG hoi hdi (by simp) ?_)
 have ho2:=AQ (Ez fun vs=>vs.setIfInBounds 0 (Dr (slot:Int))) hoi (Cf (Bv hdi _))
 have hd2:(Ez (fun vs=>vs.setIfInBounds 0 (Dr (slot:Int))) oi).data=.fields #[.int slot 0,.int i 0,.ref a,.int n 0,.int ep 0]:=by
  rw [Bv hdi]
  rfl
 refine Aa (CG ho2 hd2 (by simp) (Ab ⟨_,rfl,Ab (hQ _ ?_ ((AX ..).trans (AX ..)))⟩))
 exact ⟨_,AQ _ ho2 (Cf (Bv hd2 _)),(DK ..).trans ((DK ..).trans hci),by rw [Bv hd2]; rfl⟩
noncomputable def aAs (w:AV) (a:Addr) (ep:Nat) (es:Array (Int×Value)):Array (Int×Value):=if byT w then FT (w.params.setOrder a ep) es else es
theorem aDu (w:AV) (a:Addr) (ep:Nat) (es:Array (Int×Value)):(aAs w a ep es).toList.Perm es.toList:=by
 unfold aAs
 split
 ·exact aFz _ _
 ·exact Fl _
theorem aKY {a I:Addr} (hne:a≠I) {ep n:Nat} {o:Obj} {es:Array (Int×Value)} {t:Dk} (hh:A.handled=none) (hd:o.data=.set es ep t) (hf:t.fits es.size=true) (hn:es.size=n) (ok:TabOk t) (hdr:byT w=true\/(!t.plain && decide (es.size > 1))=false) (hled:t.led=!byT w) :
  NI prog w A I [I,a] [I] n (fun i v=>∃ e,(aAs w a ep es)[i]?=some e/\v=e.2) (fun i h=>(∃ slot:Nat,(byT w=false->CH t.place slot=i)/\SIter h I a (.int slot 0) i n ep)/\h.get? a=some o) where
 sub:=fun b hb=>by simp at hb; simp [hb]
 frame:=fun i h h' st hk=>by
  obtain ⟨⟨slot,hb,oi,h1,h2⟩,h3⟩:=st
  exact ⟨⟨slot,hb,oi,hk I (by simp) _ h1,h2⟩,hk a (by simp) _ h3⟩
 item:=fun i s Q E hi st hQ=>by
  obtain ⟨⟨slot,hb,hit⟩,ho⟩:=st
  have keep:∀ h',Cc I s.heap h'->h'.get? a=some o:=fun h' sb=>by rw [sb.2 a hne]; exact ho
  have kept:∀ h',Cc I s.heap h'->∀ b o,b ∉ [I]->s.heap.get? b=some o->h'.get? b=some o:=fun h' sb b o hb e=>by rw [sb.2 b (fun z=>hb (by simp [z]))]; exact e
  have zo:(aAs w a ep es).size=n:=by rw [<- hn,<- Bt,(aDu w a ep es).length_eq,Bt]
  have ex:(aAs w a ep es)[i]?=some (aAs w a ep es)[i]:=Br (by lia)
  generalize (aAs w a ep es)[i]=x at ex
  cases hbt:byT w with
  | true =>
   have ex':(FT (w.params.setOrder a ep) es)[i]?=some x:=by unfold aAs at ex; rw [hbt] at ex; exact ex
   exact aEe hit ho hd hf hn hbt ex' fun h' it' sb=>hQ x.2 h' s.toks ⟨x,ex,rfl⟩ ⟨⟨slot,fun z=>absurd (hbt.symm.trans z) (by decide),it'⟩,keep h' sb⟩ (kept h' sb)
  | false =>
   have ex':es[i]?=some x:=by unfold aAs at ex; rw [hbt] at ex; exact ex
   have hps:t.place.size=es.size:=by
    simp only [Na,AD,beq_iff_eq] at hf
    exact hf.1
   refine aEb hit ho hd hf hn hbt (hdr.resolve_left (by rw [hbt]; decide)) (by rw [hled,hbt]; rfl) ex' (hb hbt) fun h' it' sb=>hQ _ h' s.toks ⟨x,ex,rfl⟩ ⟨⟨t.place.getD i 0 + 1,fun _=>aEX ok.rise (by lia),it'⟩,keep h' sb⟩ (kept h' sb)
 done:=fun s Q E st hQ=>by
  obtain ⟨⟨slot,hb,hit⟩,ho⟩:=st
  refine aKW (first:=.none) hh hit ho hd hf hn (fun R hR=>?_) fun h' eb=>hQ h' s.toks fun b o hb e=>eb b o (fun z=>hb (by simp [z])) e
  unfold NB
  refine Aa (Co ho hd hf ?_)
  dsimp only
  unfold GJ
  refine Aa (Aa (BO (Ab ?_)))
  cases hbt:byT w with
  | true =>
   refine aFy hbt (aAV (by simp) ?_)
   unfold setWalk
   refine Aa (Aa (Co ho hd hf ?_))
   dsimp only
   unfold GJ
   refine Aa (Aa (BO (Ab ?_)))
   refine aFy hbt ?_
   refine Aa (BO (Ab ?_))
   obtain ⟨sz,_⟩:=aFx ((AB prog w).w.params.setOrder a ep) es
   have hx:(FT ((AB prog w).w.params.setOrder a ep) es)[n]?=none:=CQ (by lia)
   simp only [BZ]
   rw [hx]
   exact Ab hR
  | false =>
   have hdr':=hdr.resolve_left (by rw [hbt]; decide)
   refine aAV (fun e=>by have e2:byT w=true:=e; rw [hbt] at e2; cases e2) ?_
   refine aAV (fun e=>by have e2:(!t.plain && decide (es.size > 1))=true:=e; rw [hdr'] at e2; cases e2) ?_
   refine Aa ?_
   show Ar _ _ (if (!t.led && !es.isEmpty)=true then IB "set:maker-not-led" else pure ()) _ _ _
   refine aAV (by rw [hled,hbt]; simp) (Ab ?_)
   simp only [BZ,hb hbt]
   rw [CQ (show es.size<=n by lia)]
   exact Ab hR
 self:=fun i s Q E st hQ=>by
  obtain ⟨⟨slot,hb,hit⟩,ho⟩:=st
  refine DN hit.typeIs yw (AN yw hit.typeIs jS ?_ (aA5 _))
  show Ar _ _ (ret (.ref I)) _ _ s
  exact Ab ⟨_,rfl,"set_iterator",_,hit.typeIs,slot_si_next.lookup,hQ⟩
theorem aKZ {a:Addr} {ep n:Nat} {o:Obj} {es:Array (Int×Value)} {t:Dk} {Q:Value->Ad->Prop} (ho:s.heap.get? a=some o) (hc:o.cls=.type "set") (hd:o.data=.set es ep t) (hf:t.fits es.size=true) (hn:es.size=n) (hdr:byT w=true\/(!t.plain && decide (es.size > 1))=false)
  (hQ:Q (.ref s.heap.objs.size) { s with heap:=s.heap.push (aLo a n ep) }):Ar (AB prog w) A (FH (.ref a)) Q E s:=by
 have hT:s.TypeIs (.ref a) "set":=⟨o,ho,hc⟩
 refine DN hT EU (AN EU hT qy ?_ (jT _))
 show Ar _ _ (Et a >>= _) _ _ s
 unfold Et
 refine Aa (Aa (Dp ho hd hf (Ab ?_)))
 refine Aa ?_
 unfold setDrawn
 refine Aa (Co ho hd hf ?_)
 dsimp only
 unfold GJ
 refine Aa (Aa (BO (Ab (Ab ?_))))
 refine aAV (fun e=>by
  have e2:(!(byT w) && (!t.plain && decide (es.size > 1)))=true:=e
  rcases hdr with h | h
  ·rw [h] at e2; simp at e2
  ·rw [h] at e2; simp at e2) (Aa (Ab ?_))
 unfold setEpoch
 refine Aa (Aa (Co ho hd hf (Ab ?_)))
 unfold Nm
 refine Aa (Bd (Ab ⟨_,rfl,"set_iterator",_,⟨_,Ag _ rfl,rfl⟩,slot_si_next.lookup,?_⟩))
 rw [<- hn] at hQ
 exact hQ
noncomputable def aG0 (a tp:Addr) (n ep:Nat):Obj:={ cls:=.type "set_iterator",data:=.fields #[.ref tp,.int ((0:Nat):Int) 0,.ref a,.int n 0,.int ep 0] }
theorem aKa {a:Addr} {ep n:Nat} {o:Obj} {es:Array (Int×Value)} {t:Dk} {Q:Value->Ad->Prop} (ho:s.heap.get? a=some o) (hc:o.cls=.type "set") (hd:o.data=.set es ep t) (hf:t.fits es.size=true) (hn:es.size=n) (hz:n<=5000) (hbt:byT w=false) (hdr:(!t.plain && decide (es.size > 1))=true)
  (hQ:∀ (ys:List Nat) (d':Nj),ys.Perm (BQ n)->Q (.ref (s.heap.objs.size + 1)) { s with heap:=(s.heap.push (Bg "tuple" (ys.map fun (i:Nat)=>Dr i).toArray 0)).push (aG0 a s.heap.objs.size n ep),drawn:=d' }):Ar (AB prog w) A (FH (.ref a)) Q E s:=by
 have hT:s.TypeIs (.ref a) "set":=⟨o,ho,hc⟩
 have szl:=Bb
 refine DN hT EU (AN EU hT qy ?_ (jT _))
 show Ar _ _ (Et a >>= _) _ _ s
 unfold Et
 refine Aa (Aa (Dp ho hd hf (Ab ?_)))
 refine Aa ?_
 unfold setDrawn
 refine Aa (Co ho hd hf ?_)
 dsimp only
 unfold GJ
 refine Aa (Aa (BO (Ab (Ab ?_))))
 refine aFy (by
  show (!(byT w) && (!t.plain && decide (es.size > 1)))=true
  rw [hbt,hdr]; rfl) ?_
 rw [hn]
 refine Aa (aDt n (BQ n) (by simp) fun ys d' hp=>?_)
 have hl:ys.length=n:=by rw [hp.length_eq,Ge]
 refine Aa (Hx ?_ (by rw [Ah]; lia))
 have ho1:(s.heap.push (Bg "tuple" (ys.map fun (i:Nat)=>Dr i).toArray 0)).get? a=some o:=Ac _ ho
 unfold setEpoch
 refine Aa (Aa (Co (s:={ s with heap:=s.heap.push (Bg "tuple" (ys.map fun (i:Nat)=>Dr i).toArray 0),drawn:=d' }) ho1 hd hf (Ab ?_)))
 unfold Nm
 refine Aa (Bd (Ab ⟨_,rfl,"set_iterator",_,⟨_,Ag _ rfl,rfl⟩,slot_si_next.lookup,?_⟩))
 have:=hQ ys d' hp
 have z:(s.heap.push (Bg "tuple" (ys.map fun (i:Nat)=>Dr i).toArray 0)).objs.size=s.heap.objs.size + 1:=Gb _ _
 rw [<- z] at this
 exact this
theorem aKb {it a tp:Addr} {i n ep nt:Nat} {o ot:Obj} {es:Array (Int×Value)} {t:Dk} {places:Array Value} {Q:Option Value->Ad->Prop} (hh:A.handled=none) (hit:SIter s.heap it a (.ref tp) i n ep) (ho:s.heap.get? a=some o) (hd:o.data=.set es ep t) (hf:t.fits es.size=true) (hn:es.size=n)
  (hot:s.heap.get? tp=some ot) (hdt:ot.data=.seq places nt) (hp:places[i]?=none)
  (hQ:∀ h',Iy it s.heap h'->Q none { s with heap:=h' }):Ar (AB prog w) A (Dq (.ref it)) Q E s:=by
 obtain ⟨oi,hoi,hci,hdi⟩:=id hit
 unfold Dq
 refine Aa (CT (Bl (name:=CW "__next__") hit.typeIs slot_si_next (AN slot_si_next hit.typeIs yF ?_ (yW _))))
 show Ar _ _ (Me (.ref it) >>= _) _ _ s
 refine Aa (DH hoi hdi ?_)
 dsimp only
 refine Aa (Dp ho hd hf ?_)
 rw [hn]
 simp only [bne_self_eq_false,BN,if_false]
 refine Aa (CF hot hdt ?_)
 simp only [BZ,hp]
 refine Aa (CG hoi hdi (by simp) ?_)
 have ho2:=AQ (Ez fun vs=>vs.setIfInBounds 0 (Dr 0)) hoi (Cf (Bv hdi _))
 have hd2:(Ez (fun vs=>vs.setIfInBounds 0 (Dr 0)) oi).data=.fields #[Dr 0,.int i 0,.ref a,.int n 0,.int ep 0]:=by
  rw [Bv hdi]
  rfl
 refine Aa (CG ho2 hd2 (by simp) ?_)
 show Ar _ _ (Mk (.type "StopIteration") [] >>= _) _ _ _
 refine Aa ?_
 simp only [Mk,KO]
 refine Aa (Bd ?_ (by size_fits))
 refine Aa (m:=Ef _ _) (Ey (a:=BY) (by first | rfl | (simp only [Ef]; rfl)) ?_)
 refine Bd ?_ (by size_fits)
 simp only [Mc]
 refine Aa (GG ?_)
 rw [show A.in1.handled=none from hh]
 refine Aa (Ab (Iz ?_))
 refine Aa (DW (T:="StopIteration") (b:=true) ⟨_,Ag _ rfl,rfl⟩ Gh ?_)
 exact Ab (hQ _ ((((AX ..).trans (AX ..)).extBut.push _).push _))
noncomputable def ordD (es:Array (Int×Value)) (ys:List Nat):List (Int×Value):=ys.map fun j=>es[j]?.getD (0,.none)
theorem aG1 (es:Array (Int×Value)):ordD es (BQ es.size)=es.toList:=by
 unfold ordD
 apply Gc
 intro k
 have e2:es.toList[k]?=es[k]?:=BA ..
 rw [AO,e2]
 by_cases h:k < es.size
 ·rw [GU h,Br h]; simp [h]
 ·rw [Cg (by simpa using h),CQ (by lia)]; rfl
theorem aG2 {es:Array (Int×Value)} {ys:List Nat} (h:ys.Perm (BQ es.size)):(ordD es ys).Perm es.toList:=by
 rw [<- aG1 es]
 exact h.map _
theorem aKc {a tp I:Addr} (h1:a≠I) (h2:tp≠I) {ep n nt:Nat} {o ot:Obj} {es:Array (Int×Value)} {t:Dk} {ys:List Nat} (hh:A.handled=none) (hd:o.data=.set es ep t) (hf:t.fits es.size=true) (hn:es.size=n) (hdt:ot.data=.seq (ys.map fun (i:Nat)=>Dr i).toArray nt) (hy:ys.Perm (BQ n)) :
  NI prog w A I [I,a,tp] [I] n (fun i v=>∃ e,(ordD es ys)[i]?=some e/\v=e.2) (fun i h=>SIter h I a (.ref tp) i n ep/\h.get? a=some o/\h.get? tp=some ot) where
 sub:=fun b hb=>by simp at hb; simp [hb]
 frame:=fun i h h' st hk=>by
  obtain ⟨⟨oi,q1,q2⟩,q3,q4⟩:=st
  exact ⟨⟨oi,hk I (by simp) _ q1,q2⟩,hk a (by simp) _ q3,hk tp (by simp) _ q4⟩
 item:=fun i s Q E hi st hQ=>by
  obtain ⟨hit,ho,hot⟩:=st
  have hl:ys.length=n:=by rw [hy.length_eq,Ge]
  obtain ⟨p,hp⟩:∃ p,ys[i]?=some p:=⟨ys[i],Ax (by lia)⟩
  have hpn:p < n:=by simpa using hy.mem_iff.mp (Au hp)
  obtain ⟨x,hx⟩:∃ x,es[p]?=some x:=⟨es[p],Br (by lia)⟩
  refine aEc hit ho hd hf hn hot hdt (p:=p) (x:=x) ?_ hx fun h' it' sb=>hQ x.2 h' s.toks ⟨x,?_,rfl⟩ ⟨it',?_,?_⟩ fun b ob hb e=>?_
  ·rw [CY,AO,hp]; rfl
  ·unfold ordD; rw [AO,hp]; simp [hx]
  ·rw [sb.2 a h1]; exact ho
  ·rw [sb.2 tp h2]; exact hot
  ·rw [sb.2 b (fun z=>hb (by simp [z]))]; exact e
 done:=fun s Q E st hQ=>by
  obtain ⟨hit,ho,hot⟩:=st
  have hl:ys.length=n:=by rw [hy.length_eq,Ge]
  exact aKb hh hit ho hd hf hn hot hdt (by rw [CY]; exact Cg (by rw [Ah]; lia)) fun h' eb=>hQ h' s.toks fun b o hb e=>eb b o (fun z=>hb (by simp [z])) e
 self:=fun i s Q E st hQ=>by
  obtain ⟨hit,ho⟩:=st
  refine DN hit.typeIs yw (AN yw hit.typeIs jS ?_ (aA5 _))
  show Ar _ _ (ret (.ref I)) _ _ s
  exact Ab ⟨_,rfl,"set_iterator",_,hit.typeIs,slot_si_next.lookup,hQ⟩
theorem aKd {R:JV->Ad->Prop} {T:String} {S r:Addr} {n:Nat} {OkP:(Nat->Value->Prop)->Prop} (hT:∀ s':Ad,(∀ b o,s.heap.get? b=some o->s'.heap.get? b=some o)->s'.TypeIs (.ref r) T) (nl:(Dy T == Dy "list")=false) (nt:(Dy T == Dy "tuple")=false)
  (hint:∀ (E:Value->Ad->Prop) (s':Ad) (Q:Bool->Ad->Prop),s'.TypeIs (.ref r) T->Q false s'->Ar (AB prog w) A.in1 (ES (.ref r)) Q E s')
  (hS:s.heap.get? S=some { cls:=.type "list",data:=.seq #[] 0 }) (hSr:S≠r) (hn:n<=sizeLine)
  (hit:∀ (E:Value->Ad->Prop) (Q:Value->Ad->Prop),(∀ I h1 d1 fp St P,OkP P->NI prog w A.in1 I fp [I] n P St->St 0 h1->S ∉ fp->s.heap.objs.size<=I->(∀ b o,s.heap.get? b=some o->h1.get? b=some o)->Q (.ref I) { s with heap:=h1,drawn:=d1 })->Ar (AB prog w) A.in1 (FH (.ref r)) Q E s)
  (hR:∀ P h' tk d' acc' c',OkP P->(∀ b o,b≠S->s.heap.get? b=some o->h'.get? b=some o)->h'.get? S=some { cls:=.type "list",dict:=none,data:=.seq acc' c',slots:=#[] }->ItemsOf P acc' n->R (.ok (.ret (.ref S))) { s with heap:=h',toks:=tk,drawn:=d' }) :
  CA (AB prog w) A (.builtin "list.__iadd__" ⟨[.ref S,.ref r],[]⟩) R s:=by
 refine BS IR ?_
 rw [Cq II _]
 show Ar _ _ (CB (.ref S) (.ref r) (.ref S)) _ _ s
 unfold CB
 refine Aa (FA (hT s fun _ _ e=>e) ?_)
 have e1:Im (.ref S) (.ref r)=false:=by simp [Im,hSr]
 simp only [e1,nl,nt,Nb,BN,if_false]
 refine Aa (hit _ _ fun I h1 d1 fp St P okP W st hSf hI k1=>?_)
 have hSI:S≠I:=fun z=>BC _ (Aw (Ap hS) (by rw [z]; exact hI))
 have loop:∀ (h:Heap) (c tk:Nat),St 0 h->(∀ b o,b≠S->h1.get? b=some o->h.get? b=some o)->h.get? S=some { cls:=.type "list",data:=.seq #[] c } ->
   CA (AB prog w) A (.builtin "list.extend.loop" ⟨[.ref S,.ref I,.ref S],[]⟩) R { s with heap:=h,toks:=tk,drawn:=d1 }:=fun h c tk hst hk hS1=>by
  refine codeAny_extend_loopS W.toS hn S hSf (.ref S) n 0 _ #[] c rfl (AL _) hst hS1 (ItemsOf.nil _) fun s' acc' c' hm hS' hacc=>?_
  rw [Moved.eq_with hm]
  refine hR P s'.heap s'.toks d1 acc' c' okP (fun b o hb e=>hm.heap b o (fun hmem=>?_) (hk b o hb (k1 b o e))) hS' hacc
  rcases Aj.mp hmem with z | z
  ·exact hb z
  ·rw [Ae.mp z] at e
   exact BC _ (Aw (Ap e) hI)
 have hS1:=k1 S _ hS
 refine Aa (Bw (hint _ _ _ (hT _ k1) ?_))
 refine Jy (fun _=>?_) (fun _=>Ab ⟨Ec HQ _,loop h1 0 s.toks st (fun b o _ e=>e) hS1⟩)
 refine Aa (CK (Aa ?_))
 show Ar _ _ (Mt S (·.push .none) >>= fun _=>Mt S (·.pop)) _ _ _
 refine Aa (FU hS1 rfl ?_)
 have hS2:=AQ (BB (·.push BY)) hS1 rfl
 refine FU (hz:=by seq_fits) hS2 rfl ?_
 have hS3:=AQ (BB (·.pop)) hS2 rfl
 have oth:∀ b o,b≠S->h1.get? b=some o->((h1.update S (BB (·.push BY))).update S (BB (·.pop))).get? b=some o:=fun b o hb e=>by
  rw [AF _ _ (BT hb),AF _ _ (BT hb)]; exact e
 exact Ab ⟨Ec HQ _,loop _ _ _ (W.frame 0 _ _ st fun b hb o e=>oth b o (fun z=>hSf (z ▸ hb)) e) oth hS3⟩
theorem aCF {a:Addr} {ks:List Int} {Q:List Value->Ad->Prop} (hh:A.handled=none) (hS:SetG prog w s.heap a ks)
  (q:∀ (vs:List Value) (ms:List Int) (g:Heap) (tk:Nat) (d':Nj),EG vs ms->ms.Perm ks->(∀ b o,s.heap.get? b=some o->g.get? b=some o)->s.heap.objs.size < g.objs.size->Q vs { s with heap:=g,toks:=tk,drawn:=d' }) :
  Ar (AB prog w) A (Lm (.ref a)) Q E s:=by
 have hlen:=hS.len
 obtain ⟨o,es,ep,t,ho,hex,hd,hel,⟨ms,hv,hp⟩,nd,hb,hf,ok,hled⟩:=hS
 have szl:=Bb
 have sb:Jv=4096:=rfl
 have hb':es.size < 4096:=by rw [<- sb]; exact hb
 unfold Lm
 refine Aa (Hz (BS GD ?_))
 show Ar _ _ (do Jg (.builtin "list.__iadd__" ⟨[<- Mm [],.ref a],[]⟩)) _ _ s
 have hlt:=Ap ho
 have ne:s.heap.objs.size≠a:=Cd hlt
 have ho1:(s.heap.push (Bg "list" #[] 0)).get? a=some o:=Ac _ ho
 have z1:(s.heap.push (Bg "list" #[] 0)).objs.size=s.heap.objs.size + 1:=Gb _ _
 refine Aa (DF (Ab ⟨DB _ (by decide +kernel),?_⟩))
 have fin:∀ (ord:List (Int×Value)),ord.Perm es.toList->∀ h' tk d' acc' c',(∀ b ob,b≠s.heap.objs.size->(s.heap.push (Bg "list" #[] 0)).get? b=some ob->h'.get? b=some ob)->h'.get? s.heap.objs.size=some { cls:=.type "list",dict:=none,data:=.seq acc' c',slots:=#[] }->ItemsOf (fun i v=>∃ e,ord[i]?=some e/\v=e.2) acc' es.size->Q acc'.toList { s with heap:=h',toks:=tk,drawn:=d' }:=fun ord po h' tk d' acc' c' k hS' hacc=>by
  obtain ⟨sz,it⟩:=hacc
  have el:acc'.toList=ord.map (·.2):=by
   apply Gc
   intro j
   have ea:acc'.toList[j]?=acc'[j]?:=BA ..
   rw [ea,AO]
   have lo:ord.length=es.size:=by rw [po.length_eq,Bt]
   by_cases hj:j < es.size
   ·have ev:acc'[j]?=some acc'[j]:=Br (by lia)
    obtain ⟨e,h1,h2⟩:=it j _ ev
    rw [ev,h1,h2]; rfl
   ·rw [CQ (by lia),Cg (by lia)]; rfl
  obtain ⟨ns,n1,n2⟩:=aCE (po.map (·.2)) hv
  rw [<- el] at n1
  refine q acc'.toList ns h' tk d' (yb n1) (n2.trans hp) (fun b ob e=>k b ob (fun z=>?_) (Ac _ e)) (Ap hS')
  rw [z] at e
  exact absurd (Ap e) (BC _)
 by_cases hmode:byT w=true\/(!t.plain && decide (es.size > 1))=false
 ·refine aKd (T:="set") (s:={ s with heap:=s.heap.push (Bg "list" #[] 0) }) (n:=es.size) (OkP:=fun P=>P=fun i v=>∃ e,(aAs w a ep es)[i]?=some e/\v=e.2) (fun s' k=>⟨o,k a o ho1,hex.1⟩) (by decide) (by decide) (fun E s' Q hT h=>aIE hT h) (Ag _ rfl) ne (by lia) (fun E Q hQ=>?_) fun P h' tk d' acc' c' okP k hS' hacc=>?_
  ·refine aKZ ho1 hex.1 hd hf rfl hmode ?_
   refine hQ _ _ s.drawn [_,a] _ _ rfl (aKY (A:=A.in1) (AC (Ap ho1)) hh hd hf rfl ok hmode hled) ⟨⟨0,fun _=>aEW ok.rise,_,Ag _ rfl,rfl,rfl⟩,Ac _ ho1⟩ ?_ (Ak _) fun b ob e=>Ac _ e
   simp only [Aj,BF,or_false,not_or]
   exact ⟨by show s.heap.objs.size≠(s.heap.push (Bg "list" #[] 0)).objs.size; lia,ne⟩
  ·subst okP
   show Ar _ _ (load s.heap.objs.size >>= _) Q E _
   refine Aa (JG hS' (Ab ?_))
   exact fin _ (aDu w a ep es) h' tk d' acc' c' k hS' ⟨hacc.1,fun j v hj=>by obtain ⟨e,h1,h2⟩:=hacc.2 j v hj; exact ⟨e,by rw [BA]; exact h1,h2⟩⟩
 ·have hbt:byT w=false:=by
   cases e:byT w with
   | false=>rfl
   | true=>exact absurd (.inl e) hmode
  have hdr:(!t.plain && decide (es.size > 1))=true:=by
   cases e:(!t.plain && decide (es.size > 1)) with
   | true=>rfl
   | false=>exact absurd (.inr e) hmode
  refine aKd (T:="set") (s:={ s with heap:=s.heap.push (Bg "list" #[] 0) }) (n:=es.size) (OkP:=fun P=>∃ ys:List Nat,ys.Perm (BQ es.size)/\P=fun i v=>∃ e,(ordD es ys)[i]?=some e/\v=e.2) (fun s' k=>⟨o,k a o ho1,hex.1⟩) (by decide) (by decide) (fun E s' Q hT h=>aIE hT h) (Ag _ rfl) ne (by lia) (fun E Q hQ=>?_) fun P h' tk d' acc' c' okP k hS' hacc=>?_
  ·refine aKa ho1 hex.1 hd hf rfl (by lia) hbt hdr fun ys d' hy=>?_
   have ho2:=fun ob=>Ac ob (Ac (Bg "tuple" (ys.map fun (i:Nat)=>Dr i).toArray 0) ho1)
   have z2:((s.heap.push (Bg "list" #[] 0)).push (Bg "tuple" (ys.map fun (i:Nat)=>Dr i).toArray 0)).objs.size=s.heap.objs.size + 1 + 1:=by rw [Gb,z1]
   have z3:(s.heap.push (Bg "list" #[] 0)).objs.size + 1=((s.heap.push (Bg "list" #[] 0)).push (Bg "tuple" (ys.map fun (i:Nat)=>Dr i).toArray 0)).objs.size:=by rw [z1,z2]
   have na:a≠(s.heap.push (Bg "list" #[] 0)).objs.size + 1:=by rw [z1]; exact AC (LL hlt (Cn (DC _)))
   refine hQ _ _ d' [_,a,(s.heap.push (Bg "list" #[] 0)).objs.size] _ _ ⟨ys,hy,rfl⟩ (aKc (A:=A.in1) (tp:=(s.heap.push (Bg "list" #[] 0)).objs.size) (ot:=Bg "tuple" (ys.map fun (i:Nat)=>Dr i).toArray 0) na (AC (DC _)) hh hd hf rfl rfl hy) ⟨⟨aG0 a (s.heap.push (Bg "list" #[] 0)).objs.size es.size ep,?_,rfl,rfl⟩,ho2 _,?_⟩ ?_ (CC _) fun b ob e=>Ac _ (Ac _ e)
   ·show _=some (aG0 a (s.heap.push (Bg "list" #[] 0)).objs.size es.size ep)
    rw [z3]
    exact Ag _ rfl
   ·exact Ac _ (Ag _ rfl)
   ·simp only [Aj,BF,or_false,not_or]
    refine ⟨?_,ne,?_⟩
    ·show s.heap.objs.size≠(s.heap.push (Bg "list" #[] 0)).objs.size + 1
     lia
    ·show s.heap.objs.size≠(s.heap.push (Bg "list" #[] 0)).objs.size
     lia
  ·obtain ⟨ys,hy,rfl⟩:=okP
   show Ar _ _ (load s.heap.objs.size >>= _) Q E _
   refine Aa (JG hS' (Ab ?_))
   exact fin _ (aG2 hy) h' tk d' acc' c' k hS' hacc
end
end L2
namespace L2
open PySem PySem.Spec PyProof.Rows
section
variable {prog:At} {w:AV} {A:AY} {E:Value->Ad->Prop} {s:Ad}
end
theorem aIF:BW "set"=some (.type "set"):=by decide +kernel
section
variable {X:Cx}
end
end L2
namespace L2
open PySem PySem.Spec PyProof.Rows PySem.W
theorem aCG {ms:List Int} (h1:ms.Pairwise (·<=·)) (h2:ms.Nodup):ms.Pairwise (· < ·) :=
 List.Pairwise.imp₂ (fun a b hle hne=>by lia) h1 h2
theorem jU:∀ {a b:List Int},a.Pairwise (· < ·)->b.Pairwise (· < ·)->(∀ m,m∈a↔m∈b)->a=b
 | [],[],_,_,_=>rfl
 | [],y :: t,_,_,h=>by have:=(h y).mpr (Am ..); cases this
 | x :: r,[],_,_,h=>by have:=(h x).mp (Am ..); cases this
 | x :: r,y :: t,ha,hb,h=>by
  have h1:=AG.mp ha
  have h2:=AG.mp hb
  have e:x=y:=by
   rcases Aj.mp ((h x).mp (Am ..)) with e | m1
   ·exact e
   ·rcases Aj.mp ((h y).mpr (Am ..)) with e | m2
    ·exact e.symm
    ·have:=h1.1 y m2; have:=h2.1 x m1; lia
  subst e
  rw [jU h1.2 h2.2 fun m=>?_]
  constructor
  ·intro hm
   rcases Aj.mp ((h m).mp (Al _ hm)) with e | q
   ·have:=h1.1 m hm; lia
   ·exact q
  ·intro hm
   rcases Aj.mp ((h m).mpr (Al _ hm)) with e | q
   ·have:=h2.1 m hm; lia
   ·exact q
section
variable {prog:At} {w:AV} {A:AY} {E:Value->Ad->Prop} {s:Ad}
theorem aAW {a:Addr} {C:List Int->Prop} {Q:Value->Ad->Prop} (hc:∀ (Q2:List Value->Ad->Prop) (E2:Value->Ad->Prop),(∀ (vs:List Value) (ms:List Int) (g:Heap) (tk:Nat) (d':Nj),EG vs ms->C ms->(∀ b o,s.heap.get? b=some o->g.get? b=some o)->s.heap.objs.size < g.objs.size->Q2 vs { s with heap:=g,toks:=tk,drawn:=d' })->Ar (AB prog w) A.in1 (Lm (.ref a)) Q2 E2 s) (hz:∀ ms,C ms->ms.length < 64)
  (h:∀ (out:Array Value) (ms ms':List Int) (g:Heap) (e tk:Nat) (d':Nj) (p:Addr),C ms->EG out.toList ms'->ms'.Perm ms->ms'.Pairwise (·<=·)->(∀ b o,s.heap.get? b=some o->g.get? b=some o)->s.heap.objs.size<=p->g.get? p=some (Bg "list" out e)->Q (.ref p) { s with heap:=g,toks:=tk,drawn:=d' }) :
  Ar (AB prog w) A (call (.builtin "sorted") [.ref a]) Q E s:=by
 refine Eh IC Hn Ho (Ju _) ?_
 unfold Builtin.«sorted»
 refine Aa (m:=JH "sorted" 1 1 _) (Ab ?_)
 refine Aa (hc _ _ fun vs ms g1 tk d' hI hC k1 z1=>?_)
 have hlen:vs.length=ms.length:=by have:=(qD hI).length; rw [Ah] at this; exact this.symm
 have hlz:=hz ms hC
 have szl:=Bb
 refine Aa (DF ?_ (by lia))
 have gL:(g1.push (Bg "list" vs.toArray 0)).get? g1.objs.size=some (Bg "list" vs.toArray 0):=Ag _ rfl
 refine Aa (Bw (AN Gi ⟨_,gL,rfl⟩ FP (list_sort_tree gL hI (by lia) fun out ns' a1 a2 a3=>⟨_,rfl,?_⟩) (HP _)))
 obtain ⟨e,at1⟩:=KU (out:=out) gL
 have old:∀ b o,s.heap.get? b=some o->(Ig (g1.push (Bg "list" vs.toArray 0)) g1.objs.size vs out).get? b=some o:=fun b o hb=>by
  have hlt:b < g1.objs.size:=Ap (k1 b o hb)
  rw [JZ (AC hlt) (by rw [Gb]; exact Cn hlt),Fa _ _ _ (AC hlt)]
  exact k1 b o hb
 exact Ab ⟨_,rfl,h out ms ns' _ e tk d' g1.objs.size hC a1 a2 a3 old (EL z1) at1⟩
end
section
variable {X:Cx}
theorem Inv.drew {pins:List (Addr×Obj)} {σ:St} {H:Hp} {s:Ad} (I:Inv X pins σ H s) (d':Nj):Inv X pins σ H { s with drawn:=d' }:=⟨I.ok,I.os,I.bare,I.base,I.loc,I.cell,I.free,I.freeC,I.pin,I.hok,I.len⟩
noncomputable def aG3 (ta:TE):TE:=fun σ H Q=>ta σ H fun x H1=>∃ (l:Addr) (ns:List Int),x=.ref l/\H1 l=some (.lst (ns.map V.int))/\ns.length < 64 /\
 ∀ (p:Addr) (ms:List Int) (H':Hp),Same H1 H'->H' p=some (.lst (ms.map V.int))->ms.Pairwise (· < ·)->(∀ m,m∈ms↔m∈ns)->Q (.ref p) H'
theorem aDv:∀ {its:List Value} {ns:List Int},Vals (ns.map V.int) its->∀ (i:Nat) (v:Value),its[i]?=some v->∃ k t,v=.int k t/\ns[i]?=some k
 | [],_,_,i,v,e=>by simp at e
 | x :: r,[],h,_,_,_=>by cases h
 | x :: r,n :: ns,h,i,v,e=>by
  cases h with
  | cons a b =>
   cases i with
   | zero =>
    obtain ⟨t,rfl⟩:=a
    simp at e
    exact ⟨n,t,e.symm,rfl⟩
   | succ i =>
    obtain ⟨k,t,e1,e2⟩:=aDv b i v (by simpa using e)
    exact ⟨k,t,e1,by simpa using e2⟩
theorem aD4 {a:Expr} {ta:TE} {p p2 p3 pos:Pos} (hc:X.calm=true) (ha:PE X a ta) (hms:X.mg "sorted"=none) (hmt:X.mg "set"=none)
  (hgs:Gl X "sorted":=by rfl) (hgt:Gl X "set":=by rfl) (hs:AW [a] X.env=[(false,eval a X.env)]:=by rfl)
  (hs2:AW [Np (.Name "set" p2) [a] [] p3] X.env=[(false,eval (Np (.Name "set" p2) [a] [] p3) X.env)]:=by rfl) :
  PE X (.Call (.Name "sorted" p) [.Call (.Name "set" p2) [a] [] p3] [] pos) (aG3 ta):=by
 intro pins s σ H Q I h
 have hh:X.A.handled=none:=I.ok.hd hc
 refine Cb (qT I hgs hms yk ?_)
 refine Gk ?_ hs2 rfl
 show Ar _ _ (spliced ((false,eval (Np (.Name "set" p2) [a] [] p3) X.env) :: Fe pos [])) _ _ s
 refine Hj ?_
 refine Cb (qT I hgt hmt aIF ?_)
 refine Cz (thn ((zB ha zE hs) p3 pins s σ H (fun vs H1=>match vs with
  | [x]=>∃ (l:Addr) (ns:List Int),x=.ref l/\H1 l=some (.lst (ns.map V.int))/\ns.length < 64 /\
 ∀ (p:Addr) (ms:List Int) (H':Hp),Same H1 H'->H' p=some (.lst (ms.map V.int))->ms.Pairwise (· < ·)->(∀ m,m∈ms↔m∈ns)->Q (.ref p) H'
  | _=>False) I h) fun us s1 ⟨vs,H1,I1,r1,q0⟩=>?_) hs rfl
 obtain ⟨x,rfl,l,ns,rfl,hl,h4,q⟩:∃ x,vs=[x]/\∃ (l:Addr) (ns:List Int),x=.ref l/\H1 l=some (.lst (ns.map V.int))/\ns.length < 64 /\
   ∀ (p:Addr) (ms:List Int) (H':Hp),Same H1 H'->H' p=some (.lst (ms.map V.int))->ms.Pairwise (· < ·)->(∀ m,m∈ms↔m∈ns)->Q (.ref p) H':=by
  match vs,q0 with
  | [x],q0=>exact ⟨x,rfl,q0⟩
 obtain ⟨u,rfl,ru⟩:=jj r1
 cases ru
 obtain ⟨its,rv,pl,hz⟩:=I1.list (SqL.of hl)
 have len:=rv.length
 rw [Ah] at len
 refine aLn hh pl.isList (fun i v e=>aDv rv i v (by simpa using e)) (by show its.length < 4095; lia) (by show ns.length=its.length; lia) fun h' tk hS hk=>?_
 refine HX ?_
 have I2:Inv X pins σ H1 { s1 with heap:=h',toks:=tk }:=I1.kept (fun b o e=>hk b o (Ap e) e)
 have hnd:(ddI ns).Nodup:=by
  obtain ⟨_,_,_,_,_,_,_,_,_,nd,_⟩:=hS
  exact nd
 have hdl:=aFu ns
 refine aAW (C:=fun ms=>ms.Perm (ddI ns)) (fun Q2 E2 hq=>aCF hh hS hq) (fun ms hp=>by have:=hp.length_eq; lia) fun out ms ms' g e tk2 d' pp hC a1 a2 a3 k1 hp at1=>?_
 have hf:H1 pp=none:=I2.hok.fresh hp
 have hpm:=a2.trans hC
 have l2:=hpm.length_eq
 have I3:Inv X pins σ (upd H1 pp (.lst (ms'.map V.int))) { s1 with heap:=g,toks:=tk2 }:=I2.laid (t':=tk2) k1 hp ⟨by rw [Ah,Bb]; lia,out.toList,e,qD a1,at1⟩
 refine ⟨.ref pp,upd H1 pp (.lst (ms'.map V.int)),I3.drew d',rfl,q _ ms' _ (fun b o e=>by rw [zH (zD e hf)]; exact e) zC (aCG a3 (hpm.nodup_iff.mpr hnd)) fun m=>?_⟩
 rw [hpm.mem_iff,aJ4]
end
end L2
namespace Law
open PySem L2
inductive Mix:List Int->List Int->List Int->Prop
 | nil:Mix [] [] []
 | l {xs ys zs:List Int} (n:Int):Mix xs ys zs->Mix (n :: xs) ys (n :: zs)
 | r {xs ys zs:List Int} (n:Int):Mix xs ys zs->Mix xs (n :: ys) (n :: zs)
theorem Mix.len {xs ys zs:List Int} (h:Mix xs ys zs):zs.length=xs.length + ys.length:=by
 induction h with
 | nil=>rfl
 | l n _ ih=>simp only [AJ,ih]; lia
 | r n _ ih=>simp only [AJ,ih]; lia
theorem Mix.mem {xs ys zs:List Int} (h:Mix xs ys zs):∀ m,m∈zs↔m∈xs\/m∈ys:=by
 induction h with
 | nil=>simp
 | l n _ ih=>intro m; simp only [Aj,ih]; exact or_assoc.symm
 | r n _ ih=>intro m; simp only [Aj,ih]; exact or_left_comm
theorem Mix.swap {xs ys zs:List Int} (h:Mix xs ys zs):Mix ys xs zs:=by
 induction h with
 | nil=>exact .nil
 | l n _ ih=>exact .r n ih
 | r n _ ih=>exact .l n ih
noncomputable def Deed (a b w:Int):Prop:=w=a + b\/(b < a/\w=a - b)\/w=a * b\/(a % b=0/\w=a / b)
inductive MetL:List Int->Int->Prop
 | one {n:Int}:1<=n->MetL [n] n
 | two {xs ys zs:List Int} {a b w:Int}:Mix xs ys zs->xs≠[]->ys≠[]->MetL xs a->MetL ys b->Deed a b w->MetL zs w
theorem Deed.pos {a b w:Int} (h:Deed a b w) (ha:1<=a) (hb:1<=b):1<=w:=by
 rcases h with rfl | ⟨h,rfl⟩ | rfl | ⟨h,rfl⟩
 ·lia
 ·lia
 ·exact JA ha (by have:=Gy hb (show 0<=a by lia); lia)
 ·have e:=Int.ediv_mul_cancel_of_emod_eq_zero h
  have h2:0<=a / b:=Mu (by lia) (by lia)
  rcases Int.lt_or_le (a / b) 1 with h3 | h3
  ·have z:a / b=0:=by lia
   rw [z,Int.zero_mul] at e; lia
  ·exact h3
theorem MetL.pos {zs:List Int} {w:Int} (h:MetL zs w):1<=w:=by
 induction h with
 | one h=>exact h
 | two _ _ _ _ _ d ha hb=>exact d.pos ha hb
theorem Deed.le {a b w:Int} (h:Deed a b w) (ha:1<=a) (hb:1<=b):w<=2 * (a * b):=by
 have h1:a<=a * b:=by have:=Gy hb (show 0<=a by lia); lia
 have h2:b<=a * b:=by have:=Int.mul_le_mul_of_nonneg_right ha (show 0<=b by lia); lia
 rcases h with rfl | ⟨h,rfl⟩ | rfl | ⟨h,rfl⟩
 ·lia
 ·lia
 ·lia
 ·have:=LV b (show 0<=a by lia); lia
theorem MetL.big {zs:List Int} {w:Int} (h:MetL zs w) (hz:∀ n∈zs,n<=1000000):2 * w<=2 ^ (21 * zs.length):=by
 induction h with
 | @one n h =>
  have:=hz n (by simp)
  show 2 * n<=2 ^ 21
  have:(2:Int) ^ 21=2097152:=by decide
  lia
 | @two xs ys zs a b w m _ _ h1 h2 d ia ib =>
  have a1:=h1.pos
  have b1:=h2.pos
  have ia:=ia fun n hn=>hz n ((m.mem n).mpr (.inl hn))
  have ib:=ib fun n hn=>hz n ((m.mem n).mpr (.inr hn))
  have l:=d.le a1 b1
  have e:(2:Int) ^ (21 * zs.length)=2 ^ (21 * xs.length) * 2 ^ (21 * ys.length):=by
   rw [m.len,Nat.mul_add,Int.pow_add]
  rw [e]
  have p:=Int.mul_le_mul ia ib (by lia) (by lia)
  have e2:2 * a * (2 * b)=2 * (2 * (a * b)):=by rw [Int.mul_assoc,Int.mul_left_comm a 2 b]
  lia
theorem MetL.small {zs:List Int} {w:Int} (h:MetL zs w) (hl:zs.length<=4) (hz:∀ n∈zs,n<=1000000):w < 2 ^ 90:=by
 have h1:=h.big hz
 have h2:(2:Nat) ^ (21 * zs.length)<=2 ^ 84:=JP (by decide) (by lia)
 have h3:(2:Int) ^ (21 * zs.length)<=2 ^ 84:=by exact_mod_cast h2
 have h4:(2:Int) ^ 84 < 2 ^ 90:=by decide
 have h5:=h.pos
 lia
theorem MetL.ne {zs:List Int} {w:Int} (h:MetL zs w):zs≠[]:=by
 intro e
 cases h with
 | one _=>cases e
 | @two xs ys _ _ _ _ m x y _ _ _ =>
  subst e
  have:=m.len
  cases xs with
  | nil=>exact x rfl
  | cons _ _=>simp at this; lia
theorem aJ5 {n w:Int}:MetL [n] w↔w=n/\1<=n:=by
 constructor
 ·intro h
  cases h with
  | one h=>exact ⟨rfl,h⟩
  | @two xs ys _ _ _ _ m x y _ _ _ =>
   have:=m.len
   cases xs with
   | nil=>exact absurd rfl x
   | cons _ _=>cases ys with
    | nil=>exact absurd rfl y
    | cons _ _=>simp at this; lia
 ·rintro ⟨rfl,h⟩; exact .one h
noncomputable def aDw:List Int->List (List Int×List Int)
 | []=>[([],[])]
 | n :: r=>(aDw r).flatMap fun p=>[(n :: p.1,p.2),(p.1,n :: p.2)]
theorem aB1 {xs ys zs:List Int} (h:Mix xs ys zs):(xs,ys)∈aDw zs:=by
 induction h with
 | nil=>simp [aDw]
 | l n _ ih=>exact AS.mpr ⟨_,ih,by simp⟩
 | r n _ ih=>exact AS.mpr ⟨_,ih,by simp⟩
noncomputable def aG4:List Int->List (List Int×List Int)
 | []=>[]
 | n :: r=>((aDw r).map fun p=>(n :: p.1,p.2)).filter fun p=>!p.2.isEmpty
theorem aG5 {xs ys zs:List Int} (h:Mix xs ys zs) (hx:xs≠[]) (hy:ys≠[]):(xs,ys)∈aG4 zs\/(ys,xs)∈aG4 zs:=by
 cases h with
 | nil=>exact absurd rfl hx
 | l n h =>
  refine .inl (Bi.mpr ⟨Bk.mpr ⟨_,aB1 h,rfl⟩,?_⟩)
  cases ys with
  | nil=>exact absurd rfl hy
  | cons _ _=>rfl
 | r n h =>
  refine .inr (Bi.mpr ⟨Bk.mpr ⟨_,aB1 h.swap,rfl⟩,?_⟩)
  cases xs with
  | nil=>exact absurd rfl hx
  | cons _ _=>rfl
noncomputable def qV (a b:Int):List Int:=[a + b,a - b,b - a,a * b,a / b,b / a]
theorem aLp {a b w:Int} (h:Deed a b w):w∈qV a b/\w∈qV b a:=by
 rcases h with rfl | ⟨_,rfl⟩ | rfl | ⟨_,rfl⟩
 ·exact ⟨by simp [qV],by simp [qV,Int.add_comm]⟩
 ·exact ⟨by simp [qV],by simp [qV]⟩
 ·exact ⟨by simp [qV],by simp [qV,Int.mul_comm]⟩
 ·exact ⟨by simp [qV],by simp [qV]⟩
noncomputable def both (f:List Int->List Int) (p:List Int×List Int):List Int:=(f p.1).flatMap fun x=>(f p.2).flatMap fun y=>qV x y
noncomputable def jA:Nat->List Int->List Int
 | 0,_=>[]
 | k + 1,zs=>if zs.length=1 then zs else (aG4 zs).flatMap (both (jA k))
theorem aBX {zs:List Int} {w:Int} (h:MetL zs w):∀ k,zs.length<=k->w∈jA k zs:=by
 induction h with
 | one _ =>
  intro k hk
  match k,hk with
  | k + 1,_=>simp [jA]
 | @two xs ys zs a b w m hx hy h1 h2 d ia ib =>
  intro k hk
  have l:=m.len
  have lx:0 < xs.length:=CV.mpr hx
  have ly:0 < ys.length:=CV.mpr hy
  match k,hk with
  | 0,hk=>lia
  | k + 1,hk =>
   rw [jA,if_neg (by lia)]
   obtain ⟨d1,d2⟩:=aLp d
   rcases aG5 m hx hy with q | q
   ·exact AS.mpr ⟨_,q,AS.mpr ⟨a,ia k (by lia),AS.mpr ⟨b,ib k (by lia),d1⟩⟩⟩
   ·exact AS.mpr ⟨_,q,AS.mpr ⟨b,ib k (by lia),AS.mpr ⟨a,ia k (by lia),d2⟩⟩⟩
theorem aBY (f:List Int->List Int) (p:List Int×List Int):(both f p).length=(f p.1).length * ((f p.2).length * 6):=by
 unfold both
 have h1:∀ (x:Int) (l:List Int),(l.flatMap fun y=>qV x y).length=l.length * 6:=by
  intro x l
  induction l with
  | nil=>rfl
  | cons y l ih=>rw [Bm,Ai,ih,AJ,Hs]; show 6 + _=_; lia
 generalize f p.1=l
 induction l with
 | nil=>simp
 | cons x l ih=>rw [Bm,Ai,ih,h1,AJ,Hs]; lia
theorem qG (k:Nat) (a:Int):(jA (k + 1) [a]).length=1:=rfl
theorem qb (k:Nat) (a b:Int):(jA (k + 2) [a,b]).length=6:=by
 show ((both (jA (k + 1)) ([a],[b]))++[]).length=6
 rw [AM,aBY,qG,qG]
theorem aCH (k:Nat) (a b c:Int):(jA (k + 3) [a,b,c]).length=108:=by
 rw [jA,if_neg (by simp),show aG4 [a,b,c]=[([a,c],[b]),([a,b],[c]),([a],[b,c])] from rfl]
 simp only [Bm,EC,Ai,aBY]
 rw [qG (k + 1),qG (k + 1),qG (k + 1),qb k,qb k,qb k]
 rfl
theorem aG6 (k:Nat) (a b c d:Int):(jA (k + 4) [a,b,c,d]).length=3240:=by
 rw [jA,if_neg (by simp),show aG4 [a,b,c,d]=[([a,c,d],[b]),([a,b,d],[c]),([a,d],[b,c]),([a,b,c],[d]),([a,c],[b,d]),([a,b],[c,d]),([a],[b,c,d])] from rfl]
 simp only [Bm,EC,Ai,aBY]
 simp only [qG (k + 2),qb (k + 1),aCH k]
 rfl
noncomputable def bnd:Nat->Nat
 | 0=>0
 | 1=>1
 | 2=>6
 | 3=>108
 | _=>3240
theorem aDx {zs:List Int} (h:zs.length<=4):(jA 4 zs).length<=bnd zs.length:=by
 match zs,h with
 | [],_=>exact Ak _
 | [a],_=>exact Ak _
 | [a,b],_=>exact Fz (qb 2 a b)
 | [a,b,c],_=>exact Fz (aCH 1 a b c)
 | [a,b,c,d],_=>exact Fz (aG6 0 a b c d)
 | _ :: _ :: _ :: _ :: _ :: _,h=>simp at h
theorem qf:∀ {a b:List Int},a.Nodup->(∀ x∈a,x∈b)->a.length<=b.length
 | [],b,_,_=>AL _
 | x :: a,b,nd,h=>by
  have hx:x∈b:=h x (by simp)
  have nd':=Dv.mp nd
  have:=qf (a:=a) (b:=b.erase x) nd'.2 fun y hy=>by
   have:y≠x:=fun e=>nd'.1 (e ▸ hy)
   exact (List.mem_erase_of_ne this).mpr (h y (by simp [hy]))
  rw [List.length_erase_of_mem hx] at this
  have hp:0 < b.length:=FX hx
  rw [AJ]; lia
theorem aG7 {zs ks:List Int} (hl:zs.length<=4) (nd:ks.Nodup) (h:∀ k∈ks,MetL zs k):ks.length<=bnd zs.length :=
 Ay (qf nd fun x hx=>aBX (h x hx) 4 hl) (aDx hl)
theorem aA6 {r:List Int} (h:r.Pairwise (· < ·)):r.Nodup:=h.imp fun h=>Int.ne_of_lt h
theorem aIG (Pd:Int->Prop):∀ L:List Int,∃ r:List Int,r.Pairwise (· < ·)/\∀ m,m∈r↔m∈L/\Pd m
 | []=>⟨[],.nil,by simp⟩
 | x :: L=>by
  obtain ⟨r,h1,h2⟩:=aIG Pd L
  by_cases hp:Pd x
  ·refine ⟨r.filter (· < x)++([x]++r.filter (x < ·)),?_,fun m=>?_⟩
   ·refine JQ.mpr ⟨h1.filter _,JQ.mpr ⟨DG _ _,h1.filter _,?_⟩,?_⟩
    ·intro a ha b hb
     rw [Ae.mp ha]
     simpa using (Bi.mp hb).2
    ·intro a ha b hb
     have ha':a < x:=by simpa using (Bi.mp ha).2
     rcases Bj.mp hb with hb | hb
     ·rw [Ae.mp hb]; exact ha'
     ·have:x < b:=by simpa using (Bi.mp hb).2
      lia
   ·simp only [Bj,Bi,Aj,BF,or_false,h2,decide_eq_true_eq]
    constructor
    ·rintro (⟨⟨a,b⟩,_⟩ | e | ⟨⟨a,b⟩,_⟩)
     ·exact ⟨.inr a,b⟩
     ·exact ⟨.inl e,e ▸ hp⟩
     ·exact ⟨.inr a,b⟩
    ·rintro ⟨rfl | a,b⟩
     ·exact .inr (.inl rfl)
     ·rcases Lv m x with q | q | q
      ·exact .inl ⟨⟨a,b⟩,q⟩
      ·exact .inr (.inl q)
      ·exact .inr (.inr ⟨⟨a,b⟩,q⟩)
  ·refine ⟨r,h1,fun m=>?_⟩
   rw [h2,Aj]
   constructor
   ·rintro ⟨a,b⟩; exact ⟨.inr a,b⟩
   ·rintro ⟨rfl | a,b⟩
    ·exact absurd b hp
    ·exact ⟨a,b⟩
noncomputable def RowOf (Pd:Int->Prop) (r:List Int):Prop:=r.Pairwise (· < ·)/\∀ m,m∈r↔Pd m
theorem RowOf.one {Pd:Int->Prop} {a b:List Int} (h:RowOf Pd a) (g:RowOf Pd b):a=b:=jU h.1 g.1 fun m=>(h.2 m).trans (g.2 m).symm
theorem aKe (zs:List Int) (h:zs.length<=4):∃ r,RowOf (MetL zs) r:=by
 obtain ⟨r,h1,h2⟩:=aIG (MetL zs) (jA 4 zs)
 exact ⟨r,h1,fun m=>⟨fun q=>((h2 m).mp q).2,fun q=>(h2 m).mpr ⟨aBX q 4 h,q⟩⟩⟩
open Classical in
noncomputable def rowF (zs:List Int):List Int:=if h:∃ r,RowOf (MetL zs) r then h.choose else []
theorem yY {zs:List Int} (h:zs.length<=4):RowOf (MetL zs) (rowF zs):=by
 have e:=aKe zs h
 unfold rowF
 rw [dif_pos e]
 exact e.choose_spec
theorem aG8 {zs:List Int} (h:zs.length<=4):(rowF zs).length<=bnd zs.length :=
 aG7 h (aA6 (yY h).1) fun k hk=>((yY h).2 k).mp hk
theorem aD5 {n:Int} (h:1<=n):rowF [n]=[n]:=(yY (by simp)).one ⟨DG _ _,fun m=>by rw [aJ5,Ae]; exact ⟨fun e=>⟨e,h⟩,fun e=>e.1⟩⟩
noncomputable def zJ:List Int->List Bool->List Int
 | n :: ns,b :: bs=>if b=true then n :: zJ ns bs else zJ ns bs
 | _,_=>[]
theorem qp (n:Int) (ns:List Int) (bs:List Bool):zJ (n :: ns) (true :: bs)=n :: zJ ns bs:=rfl
theorem yx (n:Int) (ns:List Int) (bs:List Bool):zJ (n :: ns) (false :: bs)=zJ ns bs:=rfl
theorem zw:∀ {ns:List Int} {c:List Bool},ns.length=c.length->(zJ ns c).length=c.count true
 | [],[],_=>rfl
 | n :: ns,b :: c,h=>by
  have ih:=zw (ns:=ns) (c:=c) (by simpa using h)
  cases b
  ·rw [yx,ih]; simp
  ·rw [qp,AJ,ih]; simp
theorem yc:∀ {ns:List Int} {c:List Bool} {m:Int},m∈zJ ns c->m∈ns
 | [],_,_,h=>by unfold zJ at h; simp at h
 | _ :: _,[],_,h=>by unfold zJ at h; simp at h
 | n :: ns,b :: c,m,h=>by
  cases b
  ·exact Al _ (yc (c:=c) h)
  ·rcases Aj.mp h with h | h
   ·rw [h]; exact Am
   ·exact Al _ (yc (c:=c) h)
theorem zj (ns:List Int) (c:List Bool):(zJ ns c).length<=ns.length:=by
 induction ns generalizing c with
 | nil=>cases c <;> exact Ak _
 | cons n ns ih =>
  cases c with
  | nil=>exact AL _
  | cons b c =>
   cases b
   ·exact Ay (ih c) (by simp)
   ·exact CJ (ih c)
theorem qH (c:List Bool):c.any id=true↔0 < c.count true:=by
 induction c with
 | nil=>simp
 | cons b c ih=>cases b <;> simp_all
theorem yo {ns:List Int} {c:List Bool} (h:ns.length=c.length):zJ ns c≠[]↔c.any id=true:=by
 rw [qH,<- zw h,CV]
inductive Spl:List Bool->List Bool->List Bool->Prop
 | nil:Spl [] [] []
 | t1 {a b c:List Bool}:Spl a b c->Spl (true :: a) (false :: b) (true :: c)
 | t2 {a b c:List Bool}:Spl a b c->Spl (false :: a) (true :: b) (true :: c)
 | f {a b c:List Bool}:Spl a b c->Spl (false :: a) (false :: b) (false :: c)
theorem Spl.len {a b c:List Bool} (h:Spl a b c):a.length=c.length/\b.length=c.length:=by
 induction h <;> simp_all
theorem Spl.mix {a b c:List Bool} (h:Spl a b c):∀ ns:List Int,ns.length=c.length->Mix (zJ ns a) (zJ ns b) (zJ ns c):=by
 induction h with
 | nil=>intro ns h; cases ns with
  | nil=>exact .nil
  | cons _ _=>cases h
 | t1 _ ih=>intro ns h; cases ns with
  | nil=>cases h
  | cons n ns=>exact .l n (ih ns (by simpa using h))
 | t2 _ ih=>intro ns h; cases ns with
  | nil=>cases h
  | cons n ns=>exact .r n (ih ns (by simpa using h))
 | f _ ih=>intro ns h; cases ns with
  | nil=>cases h
  | cons n ns=>exact ih ns (by simpa using h)
theorem aBZ:∀ {c:List Bool} {ns xs ys:List Int},ns.length=c.length->Mix xs ys (zJ ns c)->∃ a b,Spl a b c/\zJ ns a=xs/\zJ ns b=ys
 | [],[],xs,ys,_,m=>by
  unfold zJ at m
  cases m
  exact ⟨[],[],.nil,rfl,rfl⟩
 | true :: c,n :: ns,xs,ys,h,m=>by
  rw [qp] at m
  cases m with
  | l _ m =>
   obtain ⟨a,b,h1,h2,h3⟩:=aBZ (by simpa using h) m
   exact ⟨true :: a,false :: b,.t1 h1,by rw [qp,h2],by rw [yx,h3]⟩
  | r _ m =>
   obtain ⟨a,b,h1,h2,h3⟩:=aBZ (by simpa using h) m
   exact ⟨false :: a,true :: b,.t2 h1,by rw [yx,h2],by rw [qp,h3]⟩
 | false :: c,n :: ns,xs,ys,h,m=>by
  rw [yx] at m
  obtain ⟨a,b,h1,h2,h3⟩:=aBZ (by simpa using h) m
  exact ⟨false :: a,false :: b,.f h1,by rw [yx,h2],by rw [yx,h3]⟩
noncomputable def jB (t:Bool):List (Bool×Bool):=if t=true then [(true,false),(false,true)] else [(false,false)]
noncomputable def yy (acc:List (List Bool×List Bool)) (t:Bool):List (List Bool×List Bool):=acc.flatMap fun p=>(jB t).map fun e=>(p.1++[e.1],p.2++[e.2])
noncomputable def splS (c:List Bool):List (List Bool×List Bool):=c.foldl yy [([],[])]
theorem aG9 (c:List Bool) (t:Bool):splS (c++[t])=yy (splS c) t:=by unfold splS; rw [CZ]; rfl
theorem aDy:∀ (c:List Bool) (acc:List (List Bool×List Bool)) (p:List Bool×List Bool),p∈c.foldl yy acc↔∃ q∈acc,∃ a b,Spl a b c/\p=(q.1++a,q.2++b)
 | [],acc,p=>by
  show p∈acc↔_
  constructor
  ·intro h; exact ⟨p,h,[],[],.nil,by simp⟩
  ·rintro ⟨q,hq,a,b,h,rfl⟩
   cases h
   simpa using hq
 | t :: c,acc,p=>by
  rw [Dw,aDy c]
  constructor
  ·rintro ⟨q,hq,a,b,h,rfl⟩
   obtain ⟨r,hr,h2⟩:=AS.mp hq
   obtain ⟨e,he,rfl⟩:=Bk.mp h2
   refine ⟨r,hr,e.1 :: a,e.2 :: b,?_,by simp⟩
   cases t
   ·simp [jB] at he; subst he; exact .f h
   ·simp [jB] at he
    rcases he with rfl | rfl
    ·exact .t1 h
    ·exact .t2 h
  ·rintro ⟨q,hq,a,b,h,rfl⟩
   have put:∀ (e:Bool×Bool) (a b:List Bool),e∈jB t->Spl a b c->∃ q'∈yy acc t,∃ a' b',Spl a' b' c/\(q.1++e.1 :: a,q.2++e.2 :: b)=(q'.1++a',q'.2++b'):=fun e a b he h =>
    ⟨(q.1++[e.1],q.2++[e.2]),AS.mpr ⟨q,hq,Bk.mpr ⟨e,he,rfl⟩⟩,a,b,h,by simp⟩
   cases h with
   | t1 h=>exact put (true,false) _ _ (by simp [jB]) h
   | t2 h=>exact put (false,true) _ _ (by simp [jB]) h
   | f h=>exact put (false,false) _ _ (by simp [jB]) h
theorem mem_splS {c:List Bool} {p:List Bool×List Bool}:p∈splS c↔Spl p.1 p.2 c:=by
 unfold splS
 rw [aDy]
 constructor
 ·rintro ⟨q,hq,a,b,h,rfl⟩
  rw [Ae.mp hq]
  exact h
 ·intro h
  exact ⟨([],[]),by simp,p.1,p.2,h,rfl⟩
theorem aHO (c:List Bool):(splS c).length<=2 ^ c.length:=by
 have:∀ (c:List Bool) (acc:List (List Bool×List Bool)),(c.foldl yy acc).length<=acc.length * 2 ^ c.length:=by
  intro c
  induction c with
  | nil=>intro acc; simp
  | cons t c ih =>
   intro acc
   rw [Dw]
   have h1:(yy acc t).length<=acc.length * 2:=by
    unfold yy
    induction acc with
    | nil=>simp
    | cons p acc ih2 =>
     rw [Bm,Ai,Ah,AJ,Hs]
     have:(jB t).length<=2:=by cases t <;> decide
     lia
   refine Ay (ih _) ?_
   rw [AJ,Nq,Nat.mul_comm (2 ^ c.length) 2,<- Nat.mul_assoc]
   exact JR _ h1
 have h:=this c [([],[])]
 rw [Jk,Nat.one_mul] at h
 exact h
noncomputable def zX (c:List Bool):List (List Bool×List Bool):=(splS c).filter fun p=>p.1.any id && p.2.any id
theorem mem_splits {c:List Bool} {p:List Bool×List Bool}:p∈zX c↔Spl p.1 p.2 c/\p.1.any id=true/\p.2.any id=true:=by
 unfold zX
 rw [Bi,mem_splS,AD]
theorem aB2 {ns:List Int} {c:List Bool} {m:Int} (h:ns.length=c.length) (h1:(zJ ns c).length≠1) :
  MetL (zJ ns c) m↔∃ p∈zX c,∃ x y,MetL (zJ ns p.1) x/\MetL (zJ ns p.2) y/\Deed x y m:=by
 constructor
 ·intro q
  generalize hz:zJ ns c=zs at q
  cases q with
  | one _=>rw [hz] at h1; exact absurd rfl h1
  | two mx hx hy m1 m2 d =>
   subst hz
   obtain ⟨a,b,hs,rfl,rfl⟩:=aBZ h mx
   have l:=hs.len
   have la:ns.length=a.length:=by lia
   have lb:ns.length=b.length:=by lia
   exact ⟨(a,b),mem_splits.mpr ⟨hs,(yo la).mp hx,(yo lb).mp hy⟩,_,_,m1,m2,d⟩
 ·rintro ⟨p,hp,x,y,m1,m2,d⟩
  obtain ⟨hs,h2,h3⟩:=mem_splits.mp hp
  exact .two (hs.mix ns h) m1.ne m2.ne m1 m2 d
noncomputable def chL:Nat->List (List Bool)
 | 0=>[[]]
 | n + 1=>(chL n).flatMap fun c=>[c++[false],c++[true]]
theorem yd:∀ n,(chL n).length=2 ^ n
 | 0=>rfl
 | n + 1=>by
  have:∀ l:List (List Bool),(l.flatMap fun c=>[c++[false],c++[true]]).length=l.length * 2:=by
   intro l
   induction l with
   | nil=>rfl
   | cons x l ih=>rw [Bm,Ai,ih]; show 2 + _=(l.length + 1) * 2; lia
  rw [chL,this,yd n,Nq]
theorem jt:∀ n,∀ c∈chL n,c.length=n
 | 0,c,h=>by rw [Ae.mp h]; rfl
 | n + 1,c,h=>by
  obtain ⟨d,hd,h⟩:=AS.mp h
  have:=jt n d hd
  simp only [Aj,BF,or_false] at h
  rcases h with rfl | rfl <;> simp [this]
theorem ju:∀ (n:Nat) (c:List Bool),c.length=n->c∈chL n
 | 0,c,h=>by rw [EB h]; simp [chL]
 | n + 1,c,h=>by
  have hc:c≠[]:=by intro e; rw [e] at h; cases h
  refine AS.mpr ⟨c.dropLast,ju n _ (by simp [h]),?_⟩
  have e:=(List.dropLast_concat_getLast hc).symm
  cases hb:c.getLast hc
  ·rw [hb] at e; exact Aj.mpr (.inl e)
  ·rw [hb] at e; exact Aj.mpr (.inr (Ae.mpr e))
noncomputable def aKf (n:Nat):Bool:=(BQ (2 ^ n)).all fun i=>(zX ((chL n).getD i [])).all fun p=>((chL n).take i).contains p.1 && ((chL n).take i).contains p.2
theorem aGA:∀ n,n<=4->aKf n=true:=by
 intro n h
 have:n=0\/n=1\/n=2\/n=3\/n=4:=by lia
 rcases this with rfl | rfl | rfl | rfl | rfl <;> decide +kernel
theorem aLq {n i:Nat} {c:List Bool} {p:List Bool×List Bool} (hn:n<=4) (hc:(chL n)[i]?=some c) (hp:p∈zX c):p.1∈(chL n).take i/\p.2∈(chL n).take i:=by
 have h:=aGA n hn
 have hi:i < 2 ^ n:=by rw [<- yd]; exact (Aq.mp hc).1
 have h2:=AK.mp h i (Cm.mpr hi)
 rw [BR,hc] at h2
 have h3:=AK.mp h2 p hp
 rw [AD] at h3
 exact ⟨JB.mp h3.1,JB.mp h3.2⟩
theorem aGB:∀ n,n<=4->(chL n).Nodup:=by
 intro n h
 have:n=0\/n=1\/n=2\/n=3\/n=4:=by lia
 rcases this with rfl | rfl | rfl | rfl | rfl <;> decide +kernel
noncomputable def Keep (S:List Addr) (H H':Hp):Prop:=∀ b o,H b=some o->b ∉ S->H' b=some o
theorem Keep.refl (S:List Addr) (H:Hp):Keep S H H:=fun _ _ h _=>h
theorem Same.new {H:Hp} {p:Addr} {o:HO} (h:H p=none):Same H (L2.upd H p o):=fun b u q=>by rw [zH (zD q h)]; exact q
noncomputable def KT (H H':Hp):Prop:=∀ p xs,H p=some (.tup xs)->H' p=some (.tup xs)
theorem KT.trans {H H1 H2:Hp} (a:KT H H1) (b:KT H1 H2):KT H H2:=fun p xs h=>b p xs (a p xs h)
theorem KT.same {H H':Hp} (a:Same H H'):KT H H':=fun p xs h=>a p _ h
theorem KT.upd {H:Hp} {p:Addr} {o:HO} {ys:List V} (h:H p=some (.lst ys)):KT H (L2.upd H p o):=fun b xs q=>by
 rw [zH]; · exact q
 ·intro e; subst e; rw [h] at q; cases q
theorem KT.new {H:Hp} {p:Addr} {o:HO} (h:H p=none):KT H (L2.upd H p o):=KT.same (Same.new h)
theorem aBa {α:Type} {xs:List α} {r:Int} (h0:0<=r) (h1:r < (xs.length:Int)):∃ v,atI xs r=some v/\v∈xs:=by
 have hl:r.toNat < xs.length:=by lia
 have e:r=((r.toNat:Nat):Int):=by lia
 have h:atI xs ((r.toNat:Nat):Int)=some xs[r.toNat]:=aBF (Ax hl)
 rw [<- e] at h
 exact ⟨xs[r.toNat],h,Fp hl⟩
structure Blt (mg:Str->Option Value):Prop where
 len:mg "len"=none
 sum:mg "sum"=none
 range:mg "range"=none
 isinstance:mg "isinstance"=none
 int:mg "int"=none
 str:mg "str"=none
 bool:mg "bool"=none
 tuple:mg "tuple"=none
 zip:mg "zip"=none
noncomputable def qI (w:Str):Prop:=w="plus"\/w="less"\/w="times"\/w="share"
inductive Way where
 | num (n:Int)
 | op (w:Str) (a b:Way)
noncomputable def Way.size:Way->Nat
 | .num _=>1
 | .op _ a b=>a.size + b.size
noncomputable def Way.ok (m:Int):Way->Prop
 | .num n=>1<=n/\n<=m
 | .op w a b=>qI w/\a.ok m/\b.ok m
noncomputable def byE (w:Str) (a b:Int):Sum Str Int :=
 if w="plus" then .inr (a + b) else if w="times" then .inr (a * b) else if w="less" then (if b < a then .inr (a - b) else .inl w) else (if a % b=0 then .inr (a / b) else .inl w)
noncomputable def aHP (K:Af):Sp:=fun vs H Q _=>∃ (a:Addr) (ns:List Int),vs=[.ref a]/\SqL K H a (ns.map V.int)/\ns.length<=63/\∀ H',Q (.bl true) H'
theorem yp {P:At} {w:AV} {K:Af} {mg:Str->Option Value} {base:Heap} {CX:CXT} {k:Nat} {x:Str} {sp:Sp} {f:Addr} {fd:Bu} {ps:List Str} (a:FnOk P w K mg base CX k f fd ps sp) (b:Binds K fd ps []) (c:mg x=some (.ref f)) (d:AI K (.ref f)=true):Def P w K mg base CX k x sp:=⟨f,fd,ps,a,b,c,d⟩
end Law
namespace L2
open PySem PySem.Spec PyProof.Rows
end L2
namespace Law
open PySem L2 PySem.NumText PyProof.Rows
mutual
noncomputable def Dat (H:Hp):D->V->Prop
 | .non,v=>v=.non
 | .bl b,v=>v=.bl b
 | .int i,v=>v=.int i
 | .str x,v=>v=.str x
 | .tup ds,v=>∃ p xs,v=.ref p/\H p=some (.tup xs)/\Dats H ds xs
 | .lst ds,v=>False
noncomputable def Dats (H:Hp):List D->List V->Prop
 | [],xs=>xs=[]
 | d :: ds,xs=>∃ x r,xs=x :: r/\Dat H d x/\Dats H ds r
end
mutual
theorem Dat.kt {H H':Hp} (k:KT H H'):∀ (d:D) {v:V},Dat H d v->Dat H' d v
 | .non,v,h=>by unfold Dat at h ⊢; exact h
 | .bl b,v,h=>by unfold Dat at h ⊢; exact h
 | .int b,v,h=>by unfold Dat at h ⊢; exact h
 | .str b,v,h=>by unfold Dat at h ⊢; exact h
 | .tup ds,v,h=>by
  unfold Dat at h ⊢
  obtain ⟨p,xs,e,hp,hs⟩:=h
  exact ⟨p,xs,e,k _ _ hp,Dats.kt k ds hs⟩
 | .lst ds,v,h=>by unfold Dat at h; exact h.elim
theorem Dats.kt {H H':Hp} (k:KT H H'):∀ (ds:List D) {vs:List V},Dats H ds vs->Dats H' ds vs
 | [],vs,h=>by unfold Dats at h ⊢; exact h
 | d :: ds,vs,h=>by
  unfold Dats at h ⊢
  obtain ⟨x,r,e,h1,h2⟩:=h
  exact ⟨x,r,e,Dat.kt k d h1,Dats.kt k ds h2⟩
end
theorem Dats.len {H:Hp}:∀ {ds:List D} {xs:List V},Dats H ds xs->ds.length=xs.length
 | [],xs,h=>by unfold Dats at h; subst h; rfl
 | d :: ds,xs,h=>by
  unfold Dats at h
  obtain ⟨x,r,rfl,_,h⟩:=h
  rw [AJ,AJ,Dats.len h]
theorem aGC {α β:Type} (f:α->List β) (m:Nat):∀ l:List α,(∀ x∈l,(f x).length=m)->(l.flatMap f).length=l.length * m
 | [],_=>by simp
 | x :: r,h=>by
  rw [Bm,Ai,h x (Am ..),aGC f m r (fun y hy=>h y (Al _ hy)),AJ,Hs,Nat.add_comm]
theorem aEf {H H':Hp} {α:Type} {R:Hp->V->α->Prop} (kk:∀ v x,R H v x->R H' v x) {vs:List V} {xs:List α} (h:AH (R H) vs xs):AH (R H') vs xs:=Paired.mapP h kk
theorem yG {α β:Type} {R:α->β->Prop}:∀ {a:List α} {b:List β} {x:α} {y:β},AH R a b->R x y->AH R (a++[x]) (b++[y])
 | _,_,_,_,.nil,h=>.cons h .nil
 | _,_,_,_,.cons p r,h=>.cons p (yG r h)
theorem zq {α β:Type} {R:α->β->Prop}:∀ {a:List α} {b:List β} {i:Nat} {x:α},AH R a b->a[i]?=some x->∃ y,b[i]?=some y/\R x y
 | _,_,_,_,.nil,e=>by simp at e
 | _,_,0,_,.cons p r,e=>by simp at e; subst e; exact ⟨_,rfl,p⟩
 | _,_,i + 1,x,.cons p r,e=>by
  obtain ⟨y,h1,h2⟩:=zq (i:=i) (x:=x) r (by simpa using e)
  exact ⟨y,by simpa using h1,h2⟩
theorem zO {α:Type} {l:List α} {i:Nat} {x:α} (h:l[i]?=some x):l.take (i + 1)=l.take i++[x]:=by
 rw [Il,h]; rfl
end Law
namespace L2
open PySem PySem.Spec PyProof.Rows
section
variable {κ:Type} [DecidableEq κ]
noncomputable def valV (kvs:List (κ×V)) (k:κ):Option V:=(kvs.find? fun kv=>decide (kv.1=k)).map (·.2)
noncomputable def putK (kvs:List (κ×V)) (k:κ) (v:V):List (κ×V) :=
 if (kvs.any fun kv=>decide (kv.1=k))=true then kvs.map (fun kv=>if kv.1=k then (kv.1,v) else kv) else kvs++[(k,v)]
theorem jV {p:κ×V} {r:List (κ×V)} {k:κ} (e:p.1=k):valV (p :: r) k=some p.2:=by simp [valV,EV,e]
theorem jW {p:κ×V} {r:List (κ×V)} {k:κ} (e:¬ p.1=k):valV (p :: r) k=valV r k:=by simp [valV,EV,e]
theorem aBb (k:κ):∀ kvs:List (κ×V),(kvs.any fun kv=>decide (kv.1=k))=(valV kvs k).isSome
 | []=>rfl
 | p :: r=>by
  rw [Ew]
  by_cases e:p.1=k
  ·simp only [jV e,decide_eq_true e,Bool.true_or,KQ]
  ·rw [jW e,decide_eq_false e,Bool.false_or]; exact aBb k r
theorem qQ (kvs:List (κ×V)) (k:κ) (v:V):(putK kvs k v).length<=kvs.length + 1:=by
 unfold putK
 split
 ·rw [Ah]; lia
 ·rw [Ai,AJ,EO]; lia
theorem RelO.isSome_eq {o:Option V} {u:Option Value} (r:RelO o u):o.isSome=u.isSome:=by
 cases o with
 | none=>cases u with
  | none=>rfl
  | some _=>exact (show False from r).elim
 | some _=>cases u with
  | none=>exact (show False from r).elim
  | some _=>rfl
end
section
variable {P:At} {w:AV} {H:Hp} {h:Heap} {a:Addr}
end
section
variable {X:Cx} {pins:List (Addr×Obj)} {σ:St} {H:Hp} {s:Ad} {a:Addr} {y v:V} {u r:Value} {o:Option V} {A:AY} {E:Value->Ad->Prop}
theorem Inv.big (I:Inv X pins σ H s):BM < s.heap.objs.size:=by
 have h:Az < s.heap.objs.size:=(I.mod.glob.keeps I.bk).lt
 exact LL (by decide) h
end
section
variable {X:Cx} {pins:List (Addr×Obj)} {σ:St} {H:Hp} {s:Ad} {a:Addr} {kvs:List (Key×V)} {k:Key} {u:Value} {A:AY} {E:Value->Ad->Prop}
end
noncomputable def NoSl (i:Expr):Prop:=∀ ov iv,Ke i false ov iv=operate [ov,iv] (Jj ov iv)
theorem aD6 {prog:At} {w:AV} {A:AY} {E:Value->Ad->Prop} {s:Ad} {env:Env} {value slice:Expr} {pos:Pos} {T id:String} {Q:Value->Ad->Prop}
    (hl:Lp (.type T) "__getitem__"=pure (some (.builtin id))) (hs:NoSl slice)
    (h:Ar (AB prog w) A (eval value env) (fun o s₁=>Ar (AB prog w) A (eval slice env) (fun i s₂=>s₂.TypeIs o T/\Ar (AB prog w) A (Jj o i) Q E s₂) E s₁) E s) :
    Ar (AB prog w) A (eval (.Subscript value slice pos) env) Q E s:=by
  refine MF (AT h (fun o s₁ h₁=>AT h₁ (fun i s₂ h₂=>?_) fun _ _ x=>x) fun _ _ x=>x)
  obtain ⟨hT,h₂⟩:=h₂
  unfold subscriptTail
  refine Aa ?_
  rw [getitemInPython_of_ne hT.not_modules]
  refine Aa (ET hT hl ?_)
  have fin:Ar (AB prog w) A (Ke slice false o i) (fun r s₃=>Ar (AB prog w) A (letTemporaryGo value o r >>= fun _=>pure r) Q E s₃) E s₂:=by
    rw [hs o i]
    exact wpAny_operating (AT h₂ (fun r s₃ h₃=>Aa (wpAny_letTemporaryGo (Ab h₃))) fun _ _ x=>x)
  first
    | exact Ab (Aa fin)
    | exact Aa (Ab (Aa fin))
    | exact Aa fin
section
variable {X:Cx} {o i e value:Expr} {pos pos' tpos:Pos} {td ty tv:TE}
end
section
variable {X:Cx} {pos:Pos}
end
structure M1 (X:Cx) (o:Expr) (m:Str) (apos:Pos) (e:Expr) (cpos:Pos):Prop where
 base:EZ o m X.env (eval o X.env)=eval o X.env
 few:((Fe cpos (AW [e] X.env)).all (fun x=>!x.1) && (MO cpos (Kn [] X.env)).all (fun x=>x.1.isSome)
  && decide (([e]:List Expr).length + ([]:List Jh).length + (if ([]:List Jh).isEmpty then 0 else 1) < 30))=true
 line:(apos.endLine == cpos.line)=true
 trees:Fe cpos (AW [e] X.env)=[(false,eval e X.env)]
section
variable {X:Cx} {pins:List (Addr×Obj)} {σ:St} {H:Hp} {s:Ad} {a:Addr} {y d:V} {u r:Value} {o:Option V} {A:AY} {E:Value->Ad->Prop}
end
section
variable {X:Cx} {o e f:Expr} {apos cpos:Pos} {td ty tx:TE}
end
section
variable {X:Cx} {pins:List (Addr×Obj)} {σ:St} {H:Hp} {s:Ad} {a:Addr} {kvs:List (Key×V)} {A:AY} {E:Value->Ad->Prop}
end
section
variable {X:Cx} {pins:List (Addr×Obj)} {σ:St} {H:Hp} {s:Ad} {a:Addr} {y:V} {u:Value} {A:AY} {E:Value->Ad->Prop}
end
section
variable {κ:Type} [DecidableEq κ]
end
section
variable {X:Cx} {pins:List (Addr×Obj)} {σ:St} {H:Hp} {s:Ad}
end
section
variable {X:Cx}
end
end L2
namespace L2
open PySem PySem.Spec PyProof.Rows PySem.W
section
variable {prog:At} {w:AV} {A:AY} {E:Value->Ad->Prop} {s:Ad}
end
section
variable {X:Cx}
end
end L2
namespace HT
open PySem PySem.Spec PyProof.Rows
section
variable {prog:At} {w:AV} {A:AY} {E:Value->Ad->Prop} {s:Ad}
end
end HT
namespace L2
open PySem PySem.Spec PyProof.Rows
variable {X:Cx}
end L2
namespace L2
open PySem PySem.Spec PyProof.Rows
theorem yz {prog:At} {w:AV} {A:AY} {E:Value->Ad->Prop} {s:Ad} {it d:Addr} {i n ep:Nat} {Q:Value->Ad->Prop} (hit:s.heap.IsKeyIter it d i n ep) (h:Q (.ref it) s):Ar (AB prog w) A (FH (.ref it)) Q E s:=by
 refine DN hit.typeIs FF (AN FF hit.typeIs PySem.F.entry_dict_keyiterator_iter ?_ (PySem.F.args_dict_keyiterator_iter_1 _))
 show Ar _ _ (ret (.ref it)) _ _ s
 exact Ab ⟨_,rfl,"dict_keyiterator",_,hit.typeIs,PySem.F.slot_dict_keyiterator_next.lookup,h⟩
section
variable {X:Cx} {tg:Expr}
end
noncomputable def isBl (b:Bool) (v:Value):Bool:=match v with | .bool c=>c == b | _=>false
theorem ye {b:Bool} {v:Value} (h:isBl b v=true):v=.bool b:=by
 cases v <;> simp_all [isBl]
theorem aJ6 (b:Bool):isBl b (.bool b)=true:=by simp [isBl]
theorem aHQ (v:Value) (a b:Bool) (ha:isBl a v=true) (hb:isBl b v=true):a=b:=by
 have h1:=ye ha
 have h2:=ye hb
 rw [h1] at h2
 injection h2
section
variable {prog:At} {w:AV} {A:AY} {E:Value->Ad->Prop} {s:Ad}
theorem aGD {b:Bool} {Q:Int->Ad->Prop} (h:Q (if b=true then 1 else 0) { s with toks:=s.toks + 1 }):Ar (AB prog w) A (pyHash (.bool b)) Q E s:=by
 have hT:s.TypeIs (.bool b) "bool":=rfl
 unfold pyHash
 have hv:[JF b].any Value.onHeap=false:=rfl
 refine Aa ?_
 rw [cRoomFor,if_neg (by rw [hv]; exact Av)]; refine Ab ?_
 refine Aa (ET hT EH.lookup ?_)
 show Ar _ _ (if (some (Value.builtin "int.__hash__") == some BY)=true then _ else _) Q E s
 rw [if_neg (by rw [beq_builtin_none]; exact Av)]
 refine Aa (ET hT EH.lookup ?_)
 show Ar _ _ (callSpecialIfBoundUnlessNone? (.bool b) "__hash__" _ >>= _) Q E s
 refine Aa (wpAny_callSpecialIfBoundUnlessNone?_slot hT EH
  (AN EH hT entry_int_hash ?_ (args_int_hash _)))
 cases b
 ·exact (show Ar _ _ (do ret (<- mkInt 0)) _ _ s from Aa (wpAny_mkInt (Ab ⟨_,rfl,Ab h⟩)))
 ·exact (show Ar _ _ (do ret (<- mkInt 1)) _ _ s from Aa (wpAny_mkInt (Ab ⟨_,rfl,Ab h⟩)))
theorem aGE {a b:Bool} {Q:Bool->Ad->Prop} (h:Q (decide (a=b)) s):Ar (AB prog w) A (eqBool (.bool a) (.bool b)) Q E s:=by
 refine GA a b _ _ _ _ ?_
 have e:(a == b)=decide (a=b):=by cases a <;> cases b <;> rfl
 rw [e]; exact h
end
noncomputable def zm (prog:At) (w:AV):KeyKind prog w Bool where
 is:=isBl
 hash:=fun b=>if b=true then 1 else 0
 inj:=aHQ
 byValue:=fun k v h=>by rw [ye h]; rfl
 pyHash:=fun hv h=>by rw [ye hv]; exact aGD h
 eqBool:=fun hu hv h=>by rw [ye hu,ye hv]; exact aGE h
 «strs»:=fun k x t v h=>by simp [isBl] at h
noncomputable def Kb (H:Hp) (q:Addr) (bs:List Bool):Prop:=∃ o:Obj,H q=some (.frz o (.tup (bs.map V.bl)))/\o.dict=none
theorem Kb.rd {H:Hp} {q:Addr} {bs:List Bool} (h:Kb H q bs):Rd H q (.tup (bs.map V.bl)):=let ⟨o,e,_⟩:=h; .inr ⟨o,e⟩
theorem Kb.same {H H':Hp} {q:Addr} {bs:List Bool} (s:Same H H') (h:Kb H q bs):Kb H' q bs:=let ⟨o,e,d⟩:=h; ⟨o,s _ _ e,d⟩
noncomputable abbrev KTB (H:Hp):List (List Bool×V)->List (List Bool×Addr×Value)->Prop:=AH fun p q=>p.1=q.1/\Kb H q.2.1 p.1/\RelV p.2 q.2.2
theorem KTB.val {H:Hp} {kvs:List (List Bool×V)} {xs:List (List Bool×Addr×Value)} (r:KTB H kvs xs) (k:List Bool):RelO (valV kvs k) ((IJ xs k).map (·.2)):=by
 induction r with
 | nil=>exact DJ
 | @cons p q ps qs h t ih =>
  obtain ⟨h1,_,h2⟩:=h
  by_cases e:p.1=k
  ·have b:IJ (q :: qs) k=some q.2:=by simp [IJ,EV,h1.symm.trans e]
   rw [jV e,b]; exact h2
  ·have b:IJ (q :: qs) k=IJ qs k:=by
    have e':¬ q.1=k:=fun z=>e (h1.trans z)
    simp [IJ,EV,e']
   rw [jW e,b]; exact ih
theorem KTB.put {H:Hp} {kvs:List (List Bool×V)} {xs:List (List Bool×Addr×Value)} (r:KTB H kvs xs) (k:List Bool) {b:Addr} {y:V} {u:Value} (hb:Kb H b k) (ry:RelV y u):KTB H (putK kvs k y) (Fw xs k b u):=by
 have e:(kvs.any fun kv=>decide (kv.1=k))=(IJ xs k).isSome:=by
  rw [aBb,(r.val k).isSome_eq,Lw]
 unfold putK Fw
 rw [e]
 by_cases q:(IJ xs k).isSome=true
 ·rw [if_pos q,if_pos q]
  clear e q
  induction r with
  | nil=>exact .nil
  | @cons p q ps qs h t ih =>
   rw [AA,AA]
   refine .cons ?_ ih
   obtain ⟨h1,h2,h3⟩:=h
   unfold Mv
   by_cases e:p.1=k
   ·rw [if_pos e,if_pos (h1.symm.trans e)]; exact ⟨h1,h2,ry⟩
   ·rw [if_neg e,if_neg (fun z=>e (h1.trans z))]; exact ⟨h1,h2,h3⟩
 ·rw [if_neg q,if_neg q]; exact NC r ⟨rfl,hb,ry⟩
theorem KTB.keeps {H H':Hp} {kvs:List (List Bool×V)} {xs:List (List Bool×Addr×Value)} (r:KTB H kvs xs) (ht:∀ b o ys,H b=some (.frz o (.tup ys))->H' b=some (.frz o (.tup ys))):KTB H' kvs xs :=
 Paired.mapP r fun _ _ z=>⟨z.1,(let ⟨o,e,d⟩:=z.2.1; ⟨o,ht _ _ _ e,d⟩),z.2.2⟩
theorem aDz {P:At} {w:AV}:∀ {ks:List Bool} {us:List Value},Vals (ks.map V.bl) us->ItemsAre (zm P w) ks us
 | [],_,r=>by rw [BX] at r; cases r; exact .nil
 | k :: ks,_,r=>by
  rw [AA] at r
  cases r with
  | cons h t =>
   cases h
   exact .cons (aJ6 k) (aDz t)
section
variable {P:At} {w:AV} {H:Hp} {h:Heap} {a:Addr}
theorem aCI {ks:List Bool} (ok:HOk P w H h) (e:Rd H a (.tup (ks.map V.bl))):(BI (zm P w)).is h ks a:=by
 obtain ⟨_,its,r,o,h1,h2,n,h3⟩:=(show ObjOk P w H h a (.tup (ks.map V.bl)) from e.ok ok)
 exact ⟨o,its.toArray,n,h1,h2,h3,by simpa using aDz r⟩
end
noncomputable def DbO (P:At) (w:AV) (a:Addr) (xs:List (List Bool×Addr×Value)):HO :=
 .ext fun h=>∃ o es ep,h.get? a=some o/\o.ExactDict/\o.data=.dict es ep/\es.toList=xs.map (Cu (BI (zm P w)))
noncomputable def Tb (P:At) (w:AV) (H:Hp) (a:Addr) (kvs:List (List Bool×V)):Prop :=
 ∃ xs,H a=some (DbO P w a xs)/\kvs.length<=sizeLine/\(a == BM)=false/\KTB H kvs xs/\(xs.map (·.1)).Nodup
section
variable {P:At} {w:AV} {H H':Hp} {h:Heap} {a:Addr} {kvs:List (List Bool×V)}
theorem aKg {xs:List (List Bool×Addr×Value)} (e:∃ o es ep,h.get? a=some o/\o.ExactDict/\o.data=.dict es ep/\es.toList=xs.map (Cu (BI (zm P w)))):ObjOk P w H h a (DbO P w a xs):=by
 obtain ⟨o,es,ep,h1,h2,h3,h4⟩:=id e
 exact ⟨e,⟨o,h1⟩,fun g1 g2 ⟨o,es,ep,h1,h2,h3,h4⟩ k=>⟨o,es,ep,k o h1,h2,h3,h4⟩⟩
theorem Tb.same (s:Same H H') (t:Tb P w H a kvs):Tb P w H' a kvs:=by
 obtain ⟨xs,h1,h2,h3,h4,h5⟩:=t
 exact ⟨xs,s _ _ h1,h2,h3,h4.keeps fun b o ys e=>s _ _ e,h5⟩
theorem Tb.new {p:Addr} (hp:(p == BM)=false):Tb P w (upd H p (DbO P w p [])) p [] :=
 ⟨[],zC,AL _,hp,.nil,Dc⟩
end
section
variable {X:Cx} {pins:List (Addr×Obj)} {σ:St} {H:Hp} {s:Ad} {a b:Addr} {kvs:List (List Bool×V)} {k:List Bool} {A:AY} {E:Value->Ad->Prop}
theorem aJ7 (I:Inv X pins σ H s) (t:Tb X.prog X.w H a kvs):(a == BM)=false/\kvs.length<=sizeLine/\∃ xs,KTB H kvs xs/\s.heap.DictOfH (BI (zm X.prog X.w)) a xs:=by
 obtain ⟨xs,h1,h2,h3,h4,h5⟩:=t
 obtain ⟨⟨o,es,ep,g1,g2,g3,g4⟩,_⟩:=(show ObjOk X.prog X.w H s.heap a (DbO X.prog X.w a xs) from I.hok a _ h1)
 refine ⟨h3,h2,xs,h4,o,es,ep,g1,g2,g3,g4,fun x hx=>?_,h5⟩
 have all:∀ {l:List (List Bool×V)} {m:List (List Bool×Addr×Value)},KTB H l m->∀ x∈m,(BI (zm X.prog X.w)).is s.heap x.1 x.2.1:=by
  intro l m q
  induction q with
  | nil=>intro x hx; exact nomatch hx
  | @cons p q ps qs hq t ih =>
   intro x hx
   rcases Aj.mp hx with e | hx
   ·subst e
    exact aCI I.hok (by rw [<- hq.1]; exact hq.2.1.rd)
   ·exact ih x hx
 exact all h4 x hx
theorem aGF {v:V} {Q:Value->Ad->Prop} (hu:A.units + 1 < cLine) (I:Inv X pins σ H s) (t:Tb X.prog X.w H a kvs) (eb:Rd H b (.tup (k.map V.bl))) (l:valV kvs k=some v) (h:∀ w' s',Inv X pins σ H s'->RelV v w'->Q w' s') :
  Ar (AB X.prog X.w) A (Jj (.ref a) (.ref b)) Q E s:=by
 obtain ⟨_,_,xs,rel,dd⟩:=aJ7 I t
 obtain ⟨w',hw,rw'⟩:=RelO.some_of (v:=v) (o:=(IJ xs k).map (·.2)) (by rw [<- l]; exact rel.val k)
 obtain ⟨p,hp,hp2⟩:=FY.mp hw
 refine Ht (EJ hu) (aCI I.hok eb) dd hp ?_
 rw [hp2]
 exact h w' _ (I.tok _) rw'
theorem aGG {v:V} {r:Value} {Q:Unit->Ad->Prop} (hu:A.units + 1 < cLine) (I:Inv X pins σ H s) (t:Tb X.prog X.w H a kvs) (eb:Kb H b k) (hl:kvs.length < sizeLine) (rv:RelV v r)
  (h:∀ s' H',Inv X pins σ H' s'->(∀ c,c≠a->H' c=H c)->Tb X.prog X.w H' a (putK kvs k v)->Q () s'):Ar (AB X.prog X.w) A (setItem (.ref a) (.ref b) r) Q E s:=by
 obtain ⟨hsys,hz0,xs,rel,dd⟩:=aJ7 I t
 have hz:xs.length<=sizeLine:=by rw [<- Ds rel]; exact hz0
 have hl2:(putK kvs k v).length<=sizeLine:=by have:=qQ kvs k v; lia
 refine KZ (hsz:=hz) (EJ hu) (aCI I.hok eb.rd) dd fun h' dd' hs=>?_
 obtain ⟨q,es,ep,hq,h2,h3,h4,_,h5⟩:=dd'
 obtain ⟨xs0,e0,_⟩:=t
 have I2:Inv X pins σ (upd H a (DbO X.prog X.w a (Fw xs k b r))) { s with heap:=h',toks:=s.toks + (BI (zm X.prog X.w)).draws k } :=
  I.write (x:=a) (e:=a) (by rw [e0]; exact DJ) (.inl rfl) (fun c q hb z=>(hs.2 c hb).trans z) ⟨q,hq⟩ (aKg ⟨q,es,ep,hq,h2,h3,h4⟩)
 refine h _ _ I2 (fun c hc=>zH hc) ⟨_,zC,hl2,hsys,(rel.put k eb rv).keeps fun c oc ys ec=>?_,h5⟩
 rw [zH (fun z=>by rw [z,e0] at ec; cases ec)]
 exact ec
end
section
variable {X:Cx} {o i value:Expr} {td ty tv tx:TE} {pos pos':Pos}
theorem aHR:PE X (.Dict [] [] pos) (fun _ H Q=>∀ p,H p=none->(p == BM)=false->Q (.ref p) (upd H p (DbO X.prog X.w p []))):=fun pins s σ H Q I h =>
 LW ⟨.ref s.heap.objs.size,_,I.laid (a:=s.heap.objs.size) (o:=DbO X.prog X.w s.heap.objs.size []) (t':=s.toks) (fun _ _ q=>Ac _ q) (Ak _) (aKg ⟨_,#[],0,Ag _ rfl,⟨rfl,rfl,rfl⟩,rfl,rfl⟩),rfl,
  h _ (I.hok.fresh (Ak _)) (beq_eq_false_iff_ne.mpr (BT (AC I.big)))⟩
noncomputable def aKh (P:At) (w:AV) (td ty:TE):TE:=fun σ H Q=>td σ H fun x H1=>ty σ H1 fun y H2=>∃ a b kvs k v,x=.ref a/\y=.ref b/\Tb P w H2 a kvs/\Rd H2 b (.tup (k.map V.bl))/\valV kvs k=some v/\Q v H2
theorem aE0 (hu:X.A.units + 1 < cLine) (ho:PE X o td) (hi:PE X i ty) (hs:NoSl i):PE X (.Subscript o i pos) (aKh X.prog X.w td ty):=by
 intro pins s σ H Q I h
 refine aD6 Fm.lookup hs (thn (ho pins s σ H _ I h) fun u s1 ⟨x,H1,I1,rx,q1⟩=>thn (hi pins s1 σ H1 _ I1 q1) fun iv s2 ⟨y,H2,I2,ry,a,b,kvs,k,v,ex,ey,t,eb,l,q2⟩=>?_)
 subst ex ey
 obtain rfl:u=Value.ref a:=rx
 obtain rfl:iv=Value.ref b:=ry
 obtain ⟨_,_,xs,_,dd⟩:=aJ7 I2 t
 exact ⟨dd.typeIs,aGF hu I2 t eb l fun w' s3 I3 rw'=>⟨v,H2,I3,rw',q2⟩⟩
noncomputable def aKi (P:At) (w:AV) (td ty tv:TE):TS:=fun D σ H=>tv σ H fun v H1=>td σ H1 fun x H2=>ty σ H2 fun y H3=>∃ a b kvs k,x=.ref a/\y=.ref b/\Tb P w H3 a kvs/\Kb H3 b k/\kvs.length < sizeLine /\
 ∀ H4:Hp,(∀ c,c≠a->H4 c=H3 c)->Tb P w H4 a (putK kvs k v)->D.nx σ H4
theorem aHS (hu:X.A.units + 1 < cLine) (ho:PE X o td) (hi:PE X i ty) (hv:PE X value tv) (hs:GK value (some (.Subscript o i pos')) pos.line X.env=pure false) :
  PS X (.Assign [.Subscript o i pos'] value pos) (aKi X.prog X.w td ty tv):=by
 intro pins s σ H D I h
 refine Jc (thn (hv pins s σ H _ I h) fun r s1 ⟨v,H1,I1,rv,q1⟩=>thn (ho pins s1 σ H1 _ I1 q1) fun u s2 ⟨x,H2,I2,rx,q2⟩=>thn (hi pins s2 σ H2 _ I2 q2) fun iv s3 ⟨y,H3,I3,ry,a,b,kvs,k,ex,ey,t,eb,hl,q3⟩=>?_) hs
 subst ex ey
 obtain rfl:u=Value.ref a:=rx
 obtain rfl:iv=Value.ref b:=ry
 exact aGG hu I3 t eb hl rv fun s4 H4 I4 kp t4=>⟨σ,H4,I4,q3 H4 kp t4⟩
end
section
variable {X:Cx} {es:List Expr} {t:TA} {pos:Pos}
noncomputable def aLr (t:TA):TE:=fun σ H Q=>t σ H fun xs H1=>xs.length<=sizeLine/\∀ (p:Addr) (o:Obj),H1 p=none->o.dict=none->Q (.ref p) (upd H1 p (.frz o (.tup xs)))
theorem aGH {x1} (h:PA X es t):PE X (.Tuple es x1 pos) (aLr t):=by
 intro pins s σ H Q I hq
 refine Kd (thn (h pos pins s σ H _ I hq) fun us s1 ⟨xs,H1,I1,r,z,q⟩=>⟨by rw [<- r.length]; exact z,?_⟩)
 have hf:H1 s1.heap.objs.size=none:=I1.hok.fresh (Ak _)
 have hp:=Ag s1.heap (o:={ cls:=.type "tuple",data:=.seq us.toArray }) rfl
 exact ⟨.ref s1.heap.objs.size,upd H1 s1.heap.objs.size (.frz _ (.tup xs)),I1.laid (t':=s1.toks) (fun b u e=>Ac _ e) (Ak _) ⟨hp,z,us,r,⟨_,hp,rfl,_,rfl⟩⟩,rfl,q _ _ hf rfl⟩
theorem aJ8:OpR X (EY .Add) (fun x y H Q=>∃ (a b:Addr) (oa ob:Obj) (xs ys:List V),x=.ref a/\y=.ref b/\H a=some (.frz oa (.tup xs))/\H b=some (.frz ob (.tup ys))/\ob.dict=none/\ys≠[]/\xs.length + ys.length<=1000000/\∀ (p:Addr) (o:Obj) (H':Hp),Same H H'->H' p=some (.frz o (.tup (xs++ys)))->o.dict=none->Q (.ref p) H'):=by
 intro pins s σ H x y v u Q I rx ry h
 obtain ⟨a,b,oa,ob,xs,ys,rfl,rfl,ha,hb,hob,hy,hz,q⟩:=h
 have szl:=Bb
 cases rx
 cases ry
 obtain ⟨its,r1,p1,_⟩:=I.tuple (a:=a) (xs:=xs) (.inl (.inr ⟨oa,ha⟩))
 obtain ⟨its2,r2,p2,_⟩:=I.tuple (a:=b) (xs:=ys) (.inl (.inr ⟨ob,hb⟩))
 by_cases hx:xs=[]
 ·subst hx
  obtain ⟨⟨cls,dd,data,sl⟩,ho,hc,n,hd⟩:=p1
  obtain ⟨⟨cls2,dd2,data2,sl2⟩,ho2,hc2,n2,hd2⟩:=p2
  simp only at hc hd hc2 hd2
  subst hc hd hc2 hd2
  have e0:its=[]:=r1.nil_iff.mpr rfl
  exact Ji ⟨_,ho,rfl⟩ ⟨_,ho2,rfl⟩ Gv Iu EF Ev (Em _ _)
   (tuple_addW0 a b its.toArray its2.toArray n n2 dd dd2 sl sl2 (by simp [e0])) ⟨ho,ho2,⟨.ref b,H,I,rfl,q b ob H (fun _ _ e=>e) hb hob⟩⟩
 ·refine HT.cat_tup p1 p2 (fun z=>hx (r1.nil_iff.mp z)) (fun z=>absurd (r2.nil_iff.mp z) hy) (fun z=>?_) (by rw [<- r1.length,<- r2.length]; lia)
  have hf:H s.heap.objs.size=none:=I.hok.fresh (Ak _)
  have hp:=Ag s.heap (o:={ cls:=.type "tuple",data:=.seq (its++its2).toArray }) rfl
  refine ⟨.ref s.heap.objs.size,upd H s.heap.objs.size (.frz _ (.tup (xs++ys))),I.laid (t':=s.toks) (fun b ob q=>Ac _ q) (Ak _) ⟨hp,by rw [Ai]; lia,_,r1.append r2,KB _ _⟩,rfl,q _ _ _ (fun b u e=>by rw [zH (zD e hf)]; exact e) zC rfl⟩
end
section
variable {prog:At} {w:AV} {A:AY} {E:Value->Ad->Prop} {s:Ad}
theorem aLs {Q₁:Value->Ad->Prop} (h:Q₁ (.ref s.heap.objs.size) { s with heap:=s.heap.push (newS w) }) :
  CA (AB prog w) A (.call (.builtin "set.__new__") ⟨[.type "set"],[]⟩) (wants Q₁ E) s:=by
 refine DS ?_
 show Ar _ A.in1 (do IS "set.__new__" ⟨[.type "set"],[]⟩; Jg (.builtin "set.__new__" ⟨[.type "set"],[]⟩)) _ _ s
 refine Aa (Ey F.newCall_set_0 (Ab ⟨Ec GV _,BS Mr ?_⟩))
 rw [Cq GV _]
 unfold Builtin.«set.__new__» He
 have hsub:=sub_set_self
 obtain ⟨hp,g,d,tk,os⟩:=s
 dsimp only
 wp_walk
 refine BO (Ab ?_)
 dsimp only
 simp only [newObj]
 refine Aa (IE (Ab ?_))
 exact Ab h
theorem aLt {Q:Value->Ad->Prop} (h:Q (.ref s.heap.objs.size) { s with heap:=s.heap.push (newS w) }):Ar (AB prog w) A (call (.type "set") []) Q E s:=by
  obtain ⟨c,tl,hmro⟩:=CD.mro
  have hmade:=CD.made
  have hsub:=CD.sub
  refine Fx (DS ?_)
  show Ar _ _ (callAny (.type "set") _) _ _ _
  refine Ab ⟨DB _ (by decide +kernel),BS Lu ?_⟩
  rw [KY (Jw "set" [] []) rfl]
  have h1:=CD.notType
  have h2:=CD.canCreate
  have hct:=F.typeCall_set_0
  repeat (any_goals (first | assumption | wp_step))
  refine Dh (aLs (E:=E) (Q₁:=fun obj s₁=>obj=.ref s.heap.objs.size/\s₁={ s with heap:=s.heap.push (newS w) }) ⟨rfl,rfl⟩) fun r s₁ hr=>?_
  cases r with
  | error e=>exact hr
  | ok fl =>
    cases fl with
    | ret obj =>
      obtain ⟨rfl,rfl⟩:=hr
      have hS:(s.heap.push (newS w)).get? s.heap.objs.size=some (newS w):=Ag _ rfl
      have hT:IH { s with heap:=s.heap.push (newS w) } (.ref s.heap.objs.size) "set":=⟨_,hS,rfl⟩
      have hli:=CD.init.lookup
      have hbi:=CD.init.bind (.ref s.heap.objs.size)
      repeat (any_goals (first | assumption | wp_step))
      refine Dh (Fc (R:=wants (fun r s₂=>r=.none/\Q (.ref s.heap.objs.size) s₂) E) CD.init.plain LU (check_set_init hT ?_)) fun r₂ s₂ hr₂=>?_
      · unfold Builtin.«set.__init__» noKeywords
        wp_walk
        exact ⟨rfl,h⟩
      · cases r₂ with
        | error e=>exact hr₂
        | ok fl₂ =>
          cases fl₂ with
          | ret r =>
            obtain ⟨rfl,hq⟩:=hr₂
            repeat (any_goals (first | assumption | wp_step))
          | _=>exact hr₂.elim
    | _=>exact hr.elim
theorem SetG.typeIs {a:Addr} {ks:List Int} (hS:SetG prog w s.heap a ks):s.TypeIs (.ref a) "set":=by
 obtain ⟨o,_,_,_,ho,hc,_⟩:=hS
 exact ⟨o,ho,hc.1⟩
theorem aCJ {a:Addr} {ks:List Int} {k:Int} {tk:Nat} {Q:Value->Ad->Prop} (hS:SetG prog w s.heap a ks) (hn:ks.length + 1 < 4096)
  (h:∀ (h':Heap),Cc a s.heap h'->SetG prog w h' a (addK ks k)->Q .none { s with heap:=h',toks:=s.toks + 1 }) :
  Ar (AB prog w) A (call (.builtin "set.add") [.ref a,.int k tk]) Q E s:=by
 refine AN F.slot_set_add hS.typeIs F.entry_set_add ?_ (F.args_set_add_2 _ _)
 unfold Builtin.«set.add» Builtin.Frozenset.oneOther
 simp only [List.isEmpty_nil,bind_assoc]
 unfold Builtin.Frozenset.addrOf setAdd
 refine Aa (Ab ?_)
 try dsimp only
 refine Aa (Ab ?_)
 try dsimp only
 refine Aa ?_
 refine Bw ?_
 refine Aa ((Ch prog w).pyHash (k:=k) (Ij _ _ _ _) ?_)
 refine aKU (s:={ s with toks:=s.toks + 1 }) hS hn fun h' b hsb hS'=>?_
 show Ar _ _ (ret BY) _ _ _
 exact Ab ⟨_,rfl,h h' hsb hS'⟩
end
noncomputable def SeO (P:At) (w:AV) (a:Addr) (ks:List Int):HO:=.ext fun h=>SetG P w h a ks
theorem aHT {P:At} {w:AV} {H:Hp} {h:Heap} {a:Addr} {ks:List Int} (e:SetG P w h a ks):ObjOk P w H h a (SeO P w a ks):=by
 obtain ⟨o,_,_,_,ho,_⟩:=id e
 exact ⟨e,⟨o,ho⟩,fun g1 g2 x k=>x.keep k⟩
section
variable {X:Cx} {pins:List (Addr×Obj)} {σ:St} {H:Hp} {s:Ad}
theorem aHU {a:Addr} {ks:List Int} (I:Inv X pins σ H s) (e:H a=some (SeO X.prog X.w a ks)):SetG X.prog X.w s.heap a ks:=(show ObjOk X.prog X.w H s.heap a (SeO X.prog X.w a ks) from I.hok a _ e).1
theorem aGI:qW X (.type "set") (fun xs H Q=>xs=[]/\∀ p,H p=none->Q (.ref p) (upd H p (SeO X.prog X.w p []))):=by
 intro pins s σ H xs us Q I r h
 obtain ⟨rfl,q⟩:=h
 cases r
 refine aLt ⟨.ref s.heap.objs.size,_,I.laid (a:=s.heap.objs.size) (o:=SeO X.prog X.w s.heap.objs.size []) (t':=s.toks) (fun _ _ q=>Ac _ q) (Ak _) (aHT (aFv (Ag _ rfl))),rfl,q _ (I.hok.fresh (Ak _))⟩
variable {o e:Expr} {td ty:TE} {apos cpos:Pos}
theorem aGJ (ho:PE X o td) (he:PE X e ty) (m:M1 X o "add" apos e cpos):PE X (.Call (.Attribute o "add" apos) [e] [] cpos) (fun σ H Q=>td σ H fun x H1=>∃ a ks,x=.ref a/\H1 a=some (SeO X.prog X.w a ks)/\ty σ H1 fun y H2=>∃ ks2 k,H2 a=some (SeO X.prog X.w a ks2)/\y=.int k/\ks2.length < 4000/\Q .non (upd H2 a (SeO X.prog X.w a (addK ks2 k)))):=by
 intro pins s σ H Q I h
 refine wpAny_Call_method m.base m.few m.line PySem.F.plainAttrs_set PySem.F.slot_set_add PySem.F.type_set_add (thn (ho pins s σ H _ I h) fun u s1 ⟨x,H1,I1,rx,a,ks,ex,d,q1⟩=>?_)
 subst ex
 obtain rfl:u=Value.ref a:=rx
 have g1:=aHU I1 d
 refine ⟨g1.typeIs,?_,?_⟩
 ·intro b eb
  injection eb with eb; subst eb
  obtain ⟨o,_,_,_,ho,hc,_⟩:=g1
  exact ⟨o,ho,hc.2.1⟩
 rw [m.trees]
 refine Dl rfl (GB (Hj (thn (he pins s1 σ H1 _ I1 q1) fun iv s2 ⟨y,H2,I2,ry,ks2,k,d2,ey,hl,q2⟩=>HX ?_)))
 subst ey
 obtain ⟨tk,rfl⟩:=ry
 refine aCJ (aHU I2 d2) (by lia) fun h' hs hS=>?_
 obtain ⟨ob,_,_,_,hob,_⟩:=id hS
 exact ⟨.non,_,I2.write (x:=a) (e:=a) (t':=s2.toks + 1) (by rw [d2]; exact DJ) (.inl rfl) (fun c q hb z=>(hs.2 c hb).trans z) ⟨_,hob⟩ (aHT hS),rfl,q2⟩
theorem aAX (hc:X.calm=true):qW X (.builtin "sorted") (fun xs H Q=>∃ (a:Addr) (ks:List Int),xs=[.ref a]/\H a=some (SeO X.prog X.w a ks)/\ks.length < 64 /\
  ∀ (p:Addr) (ms:List Int) (H':Hp),Same H H'->H p=none->H' p=some (.lst (ms.map V.int))->ms.Pairwise (· < ·)->(∀ m,m∈ms↔m∈ks)->Q (.ref p) H'):=by
 intro pins s σ H xs us Q I r h
 obtain ⟨a,ks,rfl,d,h64,q⟩:=h
 obtain ⟨u,rfl,ru⟩:=jj r
 obtain rfl:u=Value.ref a:=ru
 have hS:=aHU I d
 have hnd:ks.Nodup:=by
  obtain ⟨_,_,_,_,_,_,_,_,_,nd,_⟩:=hS
  exact nd
 have hl:=hS.len
 refine aAW (C:=fun ms=>ms.Perm ks) (fun Q2 E2 hq=>aCF (show X.A.in1.handled=none by simp [I.ok.hd hc]) hS hq) (fun ms hp=>by have:=hp.length_eq; lia) fun out ms ms' g e tk2 d' pp hC a1 a2 a3 k1 hp at1=>?_
 have hf:H pp=none:=I.hok.fresh hp
 have hpm:=a2.trans hC
 have l2:=hpm.length_eq
 have I3:Inv X pins σ (upd H pp (.lst (ms'.map V.int))) { s with heap:=g,toks:=tk2 }:=I.laid (t':=tk2) k1 hp ⟨by rw [Ah,Bb]; lia,out.toList,e,qD a1,at1⟩
 refine ⟨.ref pp,upd H pp (.lst (ms'.map V.int)),I3.drew d',rfl,q _ ms' _ (fun b o e=>by rw [zH (zD e hf)]; exact e) hf zC (aCG a3 (hpm.nodup_iff.mpr hnd)) fun m=>hpm.mem_iff⟩
end
theorem aD7 (elt t1 i1 t2 i2:Expr) (scope:Scope) (pos:Pos) (it acc:Value) (env:Env) :
  Hm (.SetComp elt [⟨t1,i1,[],0⟩,⟨t2,i2,[],0⟩] scope pos) 0 it acc env=(do
   Ft i1.pos
   match <- Dq it with
   | none=>pure (.done .next)
   | some v =>
    Cy t1 it v
    HU t1 env v
    let x <- eval i2 env
    Ft i2.pos
    let x <- BE i2 env x
    let _ <- runOwn (.compStart (.SetComp elt [⟨t1,i1,[],0⟩,⟨t2,i2,[],0⟩] scope pos) 1 (<- Iq [x] (FH x)) acc env) env
    Jg (.compLoop (.SetComp elt [⟨t1,i1,[],0⟩,⟨t2,i2,[],0⟩] scope pos) 0 it acc env)):=by rfl
theorem aD8 (elt t1 i1 t2 i2:Expr) (scope:Scope) (pos:Pos) (it acc:Value) (env:Env) :
  Hm (.SetComp elt [⟨t1,i1,[],0⟩,⟨t2,i2,[],0⟩] scope pos) 1 it acc env=(do
   Ft i2.pos
   match <- Dq it with
   | none=>pure (.done .next)
   | some v =>
    Cy t2 it v
    HU t2 env v
    (do let v <- eval elt env; Ft elt.pos; let _ <- call (.builtin "set.add") [acc,v])
    Jg (.compLoop (.SetComp elt [⟨t1,i1,[],0⟩,⟨t2,i2,[],0⟩] scope pos) 1 it acc env)):=by rfl
section
variable {prog:At} {w:AV} {A:AY} {R:JV->Ad->Prop} {s:Ad}
theorem aCK {elt t1 i1 t2 i2 scope pos it acc env}
    (h0:CA (AB prog w) A (.compLoop (.SetComp elt [⟨t1,i1,[],0⟩,⟨t2,i2,[],0⟩] scope pos) 1 it acc env) R s)
    (h:Ar (AB prog w) A (FH it) (fun it' s'=>CA (AB prog w) A (.compLoop (.SetComp elt [⟨t1,i1,[],0⟩,⟨t2,i2,[],0⟩] scope pos) 1 it' acc env) R s')
      (notedBy (AB prog w) A env fun x s'=>R (.error x) s') s) :
    CA (AB prog w) A (.compStart (.SetComp elt [⟨t1,i1,[],0⟩,⟨t2,i2,[],0⟩] scope pos) 1 it acc env) R s:=by
  refine DS ?_
  show Ar _ _ ((Js (.SetComp elt [⟨t1,i1,[],0⟩,⟨t2,i2,[],0⟩] scope pos) 1 it acc env).onRaise (fun x=>do FL x env; Ft Jt)) _ _ s
  refine KS ?_
  unfold Js
  show Ar _ _ (ask >>= _) _ _ s
  refine Aa (BO (Nn ?_))
  split
  · first
      | exact Aa (Ab (Ab (ER rfl h0)))
      | exact Ab (ER rfl h0)
  · first
      | exact Aa (CK (Aa (BG (Aa (AT h (fun it' s' h'=>Ab (ER rfl h')) fun _ _ x=>x)))))
      | (refine Aa (CK ?_); show Ar _ _ (Ft i2.pos >>= _) _ _ s; exact Aa (BG (Aa (AT h (fun it' s' h'=>Ab (ER rfl h')) fun _ _ x=>x))))
theorem aCL {elt t1 i1 t2 i2 scope pos it acc env}
    (h0:CA (AB prog w) A (.compLoop (.SetComp elt [⟨t1,i1,[],0⟩,⟨t2,i2,[],0⟩] scope pos) 0 it acc env) R s)
    (h:Ar (AB prog w) A (FH it) (fun it' s'=>CA (AB prog w) A (.compLoop (.SetComp elt [⟨t1,i1,[],0⟩,⟨t2,i2,[],0⟩] scope pos) 0 it' acc env) R s')
      (notedBy (AB prog w) A env fun x s'=>R (.error x) s') s) :
    CA (AB prog w) A (.compStart (.SetComp elt [⟨t1,i1,[],0⟩,⟨t2,i2,[],0⟩] scope pos) 0 it acc env) R s:=by
  refine DS ?_
  show Ar _ _ ((Js (.SetComp elt [⟨t1,i1,[],0⟩,⟨t2,i2,[],0⟩] scope pos) 0 it acc env).onRaise (fun x=>do FL x env; Ft Jt)) _ _ s
  refine KS ?_
  unfold Js
  show Ar _ _ (ask >>= _) _ _ s
  refine Aa (BO (Nn ?_))
  split
  · first
      | exact Aa (Ab (Ab (ER rfl h0)))
      | exact Ab (ER rfl h0)
  · first
      | exact Aa (CK (Aa (BG (Aa (AT h (fun it' s' h'=>Ab (ER rfl h')) fun _ _ x=>x)))))
      | (refine Aa (CK ?_); show Ar _ _ (Ft i1.pos >>= _) _ _ s; exact Aa (BG (Aa (AT h (fun it' s' h'=>Ab (ER rfl h')) fun _ _ x=>x))))
theorem aJ9 {E:Value->Ad->Prop} {Q:Value->Ad->Prop} (h:Q (.ref s.heap.objs.size) { s with heap:=s.heap.push (newS w) }):Ar (AB prog w) A (newSet (.type "set")) Q E s:=by
 unfold newSet GJ
 refine Aa (Aa (BO (Ab ?_)))
 dsimp only
 simp only [newObj]
 exact Aa (IE (Ab h))
theorem aD9 {elt t1 i1 t2 i2:Expr} {scope:Scope} {pos:Pos} {it acc:Value} {env:Env} (I:Nat->Ad->Prop) (hs:∀ x,BE i2 env x=pure x)
  (turn:∀ n s,I n s->Ar (AB prog w) A (Dq it) (fun r s₁=>match r with
   | none=>R (.ok .next) s₁
   | some v=>Ar (AB prog w) A (Cy t1 it v) (fun _ s1=>Ar (AB prog w) A (HU t1 env v) (fun _ s₂ =>
     Ar (AB prog w) A (eval i2 env) (fun x s₃=>Ar (AB prog w) A (FH x) (fun it2 s₄ =>
      CA (AB prog w) A (.compStart (.SetComp elt [⟨t1,i1,[],0⟩,⟨t2,i2,[],0⟩] scope pos) 1 it2 acc env) (fun r s₅=>r=.ok .next/\∃ m,m < n/\I m s₅) s₄) (fun _ _=>False) s₃) (fun _ _=>False) s₂) (fun _ _=>False) s1) (fun _ _=>False) s₁) (fun _ _=>False) s)
  (n:Nat) (h:I n s) :
  CA (AB prog w) A (.compLoop (.SetComp elt [⟨t1,i1,[],0⟩,⟨t2,i2,[],0⟩] scope pos) 0 it acc env) R s:=by
 refine Hl rfl I (fun n s hI=>?_) n h
 show Ar _ A ((Hm (.SetComp elt [⟨t1,i1,[],0⟩,⟨t2,i2,[],0⟩] scope pos) 0 it acc env).onRaise (fun x=>do FL x env; FM x)) _ _ s
 refine Ix ?_
 rw [aD7]
 refine Aa (BG (Aa (AT (turn n s hI) (fun r s₁ h₁=>?_) fun _ _ h'=>h'.elim)))
 cases r with
 | none=>exact Ab h₁
 | some v =>
  refine Aa (AT h₁ (fun _ s1 h1=>Aa (AT h1 (fun _ s₂ h₂=>Aa (AT h₂ (fun x s₃ h₃=>?_) fun _ _ h'=>h'.elim)) fun _ _ h'=>h'.elim)) fun _ _ h'=>h'.elim)
  refine Aa (BG (Aa (Ey (hs x) (Aa (Bw (AT h₃ (fun it2 s₄ h₄=>?_) fun _ _ h'=>h'.elim))))))
  refine Aa (wpAny_runOwn (Dh h₄ fun r s₅ hr=>?_))
  obtain ⟨rfl,hm⟩:=hr
  exact Ab ⟨rfl,hm⟩
theorem aDA {elt t1 i1 t2 i2:Expr} {scope:Scope} {pos:Pos} {it acc:Value} {env:Env} (I:Nat->Ad->Prop)
  (turn:∀ n s,I n s->Ar (AB prog w) A (Dq it) (fun r s₁=>match r with
   | none=>R (.ok .next) s₁
   | some v=>Ar (AB prog w) A (Cy t2 it v) (fun _ s1=>Ar (AB prog w) A (HU t2 env v) (fun _ s₂ =>
     Ar (AB prog w) A (eval elt env) (fun x s₄ =>
       Ar (AB prog w) A (call (.builtin "set.add") [acc,x]) (fun _ s₅=>∃ m,m < n/\I m s₅) (fun _ _=>False) s₄) (fun _ _=>False) s₂) (fun _ _=>False) s1) (fun _ _=>False) s₁) (fun _ _=>False) s)
  (n:Nat) (h:I n s) :
  CA (AB prog w) A (.compLoop (.SetComp elt [⟨t1,i1,[],0⟩,⟨t2,i2,[],0⟩] scope pos) 1 it acc env) R s:=by
 refine Hl rfl I (fun n s hI=>?_) n h
 show Ar _ A ((Hm (.SetComp elt [⟨t1,i1,[],0⟩,⟨t2,i2,[],0⟩] scope pos) 1 it acc env).onRaise (fun x=>do FL x env; FM x)) _ _ s
 refine Ix ?_
 rw [aD8]
 refine Aa (BG (Aa (AT (turn n s hI) (fun r s₁ h₁=>?_) fun _ _ h'=>h'.elim)))
 cases r with
 | none=>exact Ab h₁
 | some v =>
  refine Aa (AT h₁ (fun _ s1 h1=>Aa (AT h1 (fun _ s₂ h₂=>?_) fun _ _ h'=>h'.elim)) fun _ _ h'=>h'.elim)
  exact Aa (Aa (AT h₂ (fun x s₄ h₄=>Aa (BG (Aa (AT h₄ (fun _ s₅ h₅=>Ab (Ab ⟨rfl,h₅⟩)) fun _ _ h'=>h'.elim)))) fun _ _ h'=>h'.elim))
end
noncomputable def tInS (P:At) (w:AV) (D:Addr) (wi:TI) (g:TG) (te:TE) (NX:St->Hp->Prop) (σ:St) (H:Hp):Prop:=wi σ H fun J H1=>∃ W:Nat->Nat->St->Hp->Prop,(∃ m,W 0 m σ H1)/\∀ i m σ H,W i m σ H ->
 (J.stop i H/\NX σ H)\/(J.go i H/\∃ N:St->Hp->Prop,(∀ σ' H',N σ' H'->∃ m',m' < m/\W (i + 1) m' σ' H')/\∀ x H',J.yld i H x H'->g x σ H' fun σ2 H2=>te σ2 H2 fun y H5=>∃ ks k,H5 D=some (SeO P w D ks)/\y=.int k/\ks.length < 4000/\N σ2 (upd H5 D (SeO P w D (addK ks k))))
noncomputable def aIH (P:At) (w:AV) (mp:List (Option Nat)) (wi:TI) (g:Addr->Ad->Hp->List Addr->TG) (wi2:Addr->Ad->Hp->List Addr->TI) (g2:Addr->Ad->Hp->List Addr->TG) (te:Addr->Ad->Hp->List Addr->TE):TE:=fun σ H Q=>wi σ H fun J H1=>∀ (D:Addr),H1 D=none->∀ (C:Addr) (s2:Ad) (fp:List Addr),
 ∃ W:Nat->Nat->St->Hp->Prop,(∃ m,W 0 m (zv mp σ) (upd H1 D (SeO P w D [])))/\∀ i m σ2 H2,W i m σ2 H2 ->
  (J.stop i H2/\Q (.ref D) H2)\/(J.go i H2/\∃ N:St->Hp->Prop,(∀ σ' H',N σ' H'->∃ m',m' < m/\W (i + 1) m' σ' H')/\∀ x H',J.yld i H2 x H'->g C s2 H1 fp x σ2 H' fun σ3 H3=>tInS P w D (wi2 C s2 H1 fp) (g2 C s2 H1 fp) (te C s2 H1 fp) N σ3 H3)
section
variable {X:Cx}
theorem aJA {elt t1 i1 t2 i2:Expr} {scope:Scope} {pos:Pos} {wi:TI} {g:TG} {te:TE} {D:Addr} {NX:St->Hp->Prop} (hc:X.calm=true) (hx:X.xe=fun _ _=>False) (hi:PI X t2 i2 wi) (hg:PG X t2 g) (he:PE X elt te)
  {pins:List (Addr×Obj)} {s:Ad} {σ:St} {H:Hp} {R:Ad->Prop} (I:Inv X pins σ H s) (h:tInS X.prog X.w D wi g te NX σ H) (fin:∀ σ' H' s',Inv X pins σ' H' s'->NX σ' H'->R s') :
  Ar (AB X.prog X.w) X.A (eval i2 X.env) (fun x s₃=>Ar (AB X.prog X.w) X.A (FH x) (fun it2 s₄ =>
   CA (AB X.prog X.w) X.A (.compStart (.SetComp elt [⟨t1,i1,[],0⟩,⟨t2,i2,[],0⟩] scope pos) 1 it2 (.ref D) X.env) (fun r s₅=>r=.ok .next/\R s₅) s₄) (fun _ _=>False) s₃) (fun _ _=>False) s:=by
 have h0:=hi pins s σ H _ I h
 rw [hx] at h0
 refine thn h0 fun v s1 h1=>thn h1 fun itv s2 h2=>?_
 obtain ⟨it,fp,tn,J,H2,e,I2,T,st2,f2,W,⟨m0,w0⟩,turn⟩:=h2
 subst e
 have stat:∀ {H':Hp},(∀ b∈fp,H' b=none)->∀ b∈fp,FpOk X pins H' b:=fun hn b hb=>⟨hn b hb,(f2 b hb).2⟩
 have loop:CA (AB X.prog X.w) X.A (.compLoop (.SetComp elt [⟨t1,i1,[],0⟩,⟨t2,i2,[],0⟩] scope pos) 1 (.ref it) (.ref D) X.env) (fun r s₅=>r=.ok .next/\R s₅) s2:=by
  refine aDA (fun n s'=>∃ i σ' H',Inv X pins σ' H' s'/\tn i s'.heap/\(∀ b∈fp,H' b=none)/\W i n σ' H') ?_ m0 ⟨0,σ,H2,I2,st2,fun b hb=>(f2 b hb).1,w0⟩
  rintro n s3 ⟨i,σ3,H3,I3,st3,fr3,w3⟩
  rcases turn i n σ3 H3 w3 with ⟨stop,qn⟩ | ⟨go,N',hN,step⟩
  ·refine (thn (T.done X rfl rfl rfl hc i pins s3 σ3 H3 (fun _ _=>False) I3 (stat fr3) st3 stop) fun r s4 ⟨hr,I4'⟩=>?_)
   subst hr
   exact ⟨rfl,fin _ _ _ I4' qn⟩
  ·refine (thn (T.item X rfl rfl rfl hc i pins s3 σ3 H3 (fun _ _=>False) I3 (stat fr3) st3 go) fun r s4 ⟨u,hr,h4⟩=>?_)
   subst hr
   refine thn h4 fun _ s5 ⟨x,H5,I5,r5,y5,st5,fr5⟩=>?_
   have I5':=I5.pinned (stat fr5) (T.obj _ _ st5)
   have hg':=hg _ s5 σ3 H5 x u _ I5' r5 (step x H5 y5)
   rw [hx] at hg'
   refine (thn hg' fun _ s6 ⟨σ6,H6,I6,q6⟩=>?_)
   have Jg:∀ {σ7:St} {H7:Hp} {s7:Ad},Inv X (pins++aAI fp s5.heap) σ7 H7 s7->N' σ7 H7->∃ m,m < n/\∃ i σ' H',Inv X pins σ' H' s7/\tn i s7.heap/\(∀ b∈fp,H' b=none)/\W i m σ' H':=fun {σ7 H7 s7} I7 n7=>by
    obtain ⟨m',hm,w7⟩:=hN σ7 H7 n7
    refine ⟨m',hm,i + 1,σ7,H7,I7.unpinned,T.keep _ _ _ st5 fun b hb o e=>(I7.pin (b,o) (An _ (An _ (zd hb e)))).1,fun b hb=>?_,w7⟩
    obtain ⟨o,e,d⟩:=T.obj _ _ st5 b hb
    exact (I7.pin (b,o) (An _ (An _ (zd hb e)))).2.1
   have he':=he _ s6 σ6 H6 _ I6 q6
   rw [hx] at he'
   refine (thn he' fun y s8 ⟨yv,H8,I8,ry,ks,k,d8,ey,hz,n8⟩=>?_)
   subst ey
   obtain ⟨tk,rfl⟩:=ry
   refine aCJ (aHU I8 d8) (by lia) fun h' hs hS=>?_
   obtain ⟨ob,_,_,_,hob,_⟩:=id hS
   exact Jg (I8.write (x:=D) (e:=D) (t':=s8.toks + 1) (by rw [d8]; exact DJ) (.inl rfl) (fun c q hb z=>(hs.2 c hb).trans z) ⟨_,hob⟩ (aHT hS)) n8
 exact aCK loop (T.self X.A 0 s2 _ _ st2 loop)
theorem aGK {elt t1 i1 t2 i2:Expr} {scope:Scope} {pos:Pos} {N:List Str} {mp:List (Option Nat)} {cl:List (Str×Addr)} {wi:TI} {g:Addr->Ad->Hp->List Addr->TG} {wi2:Addr->Ad->Hp->List Addr->TI} {g2:Addr->Ad->Hp->List Addr->TG} {te:Addr->Ad->Hp->List Addr->TE}
  (hc:X.calm=true) (S:CompScopeC X N mp scope) (hcl:yI X.env.cells scope.names []=some cl) (hi:PI X t1 i1 wi)
  (hg:∀ C s2 H2 fp,PG (cxCC X N scope cl C s2 H2 fp) t1 (g C s2 H2 fp)) (hi2:∀ C s2 H2 fp,PI (cxCC X N scope cl C s2 H2 fp) t2 i2 (wi2 C s2 H2 fp)) (hg2:∀ C s2 H2 fp,PG (cxCC X N scope cl C s2 H2 fp) t2 (g2 C s2 H2 fp)) (he:∀ C s2 H2 fp,PE (cxCC X N scope cl C s2 H2 fp) elt (te C s2 H2 fp))
  (hs:∀ x,BE i1 X.env x=pure x) (hs2:∀ C x,BE i2 (Iw scope (Cr (C + 1) scope.names cl) C X.env) x=pure x)
  {use:Option (Value->Sem Unit)} {PQ:Value->Ad->Prop} {pins:List (Addr×Obj)} {s:Ad} {σ:St} {H:Hp} {Q:VK} (I:Inv X pins σ H s) (h:aIH X.prog X.w mp wi g wi2 g2 te σ H Q)
  (fin:∀ (H2:Hp) (s2:Ad) (fp:List Addr) (σ':St) (H':Hp) (s':Ad),Inv X pins σ H2 s2->(∀ b∈fp,FpOk X pins H2 b)->Inv (cxCC X N scope cl (s2.heap.objs.size + 1) s2 H2 fp) [] σ' H' s'->Q (.ref s2.heap.objs.size) H' ->
   KR (AB X.prog X.w) X.A X.xe use PQ (.ref s2.heap.objs.size) (s2.heap.objs.size + 1) (.ok .next) s') :
  Ar (AB X.prog X.w) X.A (IF (.SetComp elt [⟨t1,i1,[],0⟩,⟨t2,i2,[],0⟩] scope pos) scope X.env (Jq [⟨t1,i1,[],0⟩,⟨t2,i2,[],0⟩] pos) (newSet (.type "set")) (Lq [⟨t1,i1,[],0⟩,⟨t2,i2,[],0⟩]) (Mp [⟨t1,i1,[],0⟩,⟨t2,i2,[],0⟩] X.env) use) PQ X.xe s:=by
 refine FB (use:=use) rfl hs (qP hcl) S.kind S.names (thn (hi pins s σ H _ I h) fun v s1 h1=>thn h1 fun itv s2 h2=>?_)
 obtain ⟨it,fp,tn,J,H2,e,I2,T,st2,f2,h3⟩:=h2
 subst e
 refine aJ9 (qa ?_)
 dsimp only
 have hn2:H2 s2.heap.objs.size=none:=I2.hok.fresh (Ak _)
 generalize hH2:s2.heap.push (newS X.w)=G2
 have hC:G2.objs.size=s2.heap.objs.size + 1:=by rw [<- hH2,Bo]
 generalize hh1:Mo (G2.push PySem.W.emptyDict) scope.names=h₁
 have old1:∀ b o,G2.get? b=some o->h₁.get? b=some o:=fun b o e=>by rw [<- hh1]; exact EQ _ _ b o (Ac _ e)
 have old:∀ b o,s2.heap.get? b=some o->h₁.get? b=some o:=fun b o e=>old1 b o (hH2 ▸ Ac _ e)
 have hD1:h₁.get? s2.heap.objs.size=some (newS X.w):=old1 _ _ (hH2 ▸ Ag _ rfl)
 have hns₁:h₁.Ns (s2.heap.objs.size + 1) (fun _=>none):=by
  have e1:h₁.get? G2.objs.size=some PySem.W.emptyDict:=by rw [<- hh1]; exact EQ _ _ _ _ (Ag _ rfl)
  rw [hC] at e1
  exact ⟨_,#[],_,e1,rfl,fun e he=>absurd he (by simp),fun _=>rfl⟩
 have cok:MW h₁ (s2.heap.objs.size + 2) (aA8 scope (s2.heap.objs.size + 1)):=by
  have:=LK scope.names (G2.push PySem.W.emptyDict) (s2.heap.objs.size + 2) [] ⟨fun _ _ hm=>(nomatch hm),BJ⟩ (by rw [Bo,hC]; exact Ak _)
  rw [Bo,hC,hh1] at this
  exact this
 obtain ⟨W,⟨m0,w0⟩,turn⟩:=h3 s2.heap.objs.size hn2 (s2.heap.objs.size + 1) s2 fp
 have I4:=aCA (tk:=s2.toks) I2 S hcl f2 (fun b hb=>let ⟨o,e,_⟩:=T.obj _ _ st2 b hb; ⟨o,e⟩) old (aHT (aFv hD1)) hns₁ cok
 have st4:tn 0 h₁:=T.keep _ _ _ st2 fun b hb o e=>old b o e
 have stat:∀ {pl:List (Addr×Obj)} {H':Hp},(∀ b∈fp,H' b=none)->(∀ p∈pl,p.1 ∉ fp)->∀ b∈fp,FpOk (cxCC X N scope cl (s2.heap.objs.size + 1) s2 H2 fp) pl H' b:=fun {pl H'} hn hp b hb =>
  ⟨hn b hb,(I4.ok.exf b hb).1,I4.ok.exfs b hb,.inl hb,(I4.ok.exf b hb).2,fun p z q=>hp p (by simpa [cxC,cxCC] using z) (by rw [q]; exact hb)⟩
 have fr0:∀ b∈fp,(upd H2 s2.heap.objs.size (SeO X.prog X.w s2.heap.objs.size [])) b=none:=fun b hb=>by
  obtain ⟨o,e,_⟩:=T.obj _ _ st2 b hb
  rw [zH (AC (Ap e))]
  exact (f2 b hb).1
 have loop:CA (AB X.prog X.w) X.A (.compLoop (.SetComp elt [⟨t1,i1,[],0⟩,⟨t2,i2,[],0⟩] scope pos) 0 (.ref it) (.ref s2.heap.objs.size) (Iw scope (Cr (s2.heap.objs.size + 1 + 1) scope.names cl) (s2.heap.objs.size + 1) X.env))
   (KR (AB X.prog X.w) X.A X.xe use PQ (.ref s2.heap.objs.size) (s2.heap.objs.size + 1)) { s2 with heap:=h₁,toks:=s2.toks }:=by
  refine aD9 (fun n s'=>∃ i σ' H',Inv (cxCC X N scope cl (s2.heap.objs.size + 1) s2 H2 fp) [] σ' H' s'/\tn i s'.heap/\(∀ b∈fp,H' b=none)/\W i n σ' H') (hs2 _) ?_ m0 ⟨0,_,_,I4,st4,fr0,w0⟩
  rintro n s3 ⟨i,σ3,H3,I3,st3,fr3,w3⟩
  rcases turn i n σ3 H3 w3 with ⟨stop,qn⟩ | ⟨go,N',hN,step⟩
  ·refine (thn (T.done (cxCC X N scope cl (s2.heap.objs.size + 1) s2 H2 fp) rfl rfl rfl hc i [] s3 σ3 H3 (fun _ _=>False) I3 (stat fr3 (fun _ z=>nomatch z)) st3 stop) fun r s4 ⟨hr,I4'⟩=>?_)
   subst hr
   exact fin H2 s2 fp _ _ _ I2 f2 I4' qn
  ·refine (thn (T.item (cxCC X N scope cl (s2.heap.objs.size + 1) s2 H2 fp) rfl rfl rfl hc i [] s3 σ3 H3 (fun _ _=>False) I3 (stat fr3 (fun _ z=>nomatch z)) st3 go) fun r s4 ⟨u,hr,h4⟩=>?_)
   subst hr
   refine thn h4 fun _ s5 ⟨x,H5,I5,r5,y5,st5,fr5⟩=>?_
   have I5':=I5.pinned (pins:=[]) (stat fr5 (fun _ z=>nomatch z)) (T.obj _ _ st5)
   refine (thn (hg (s2.heap.objs.size + 1) s2 H2 fp _ s5 σ3 H5 x u _ I5' r5 (step x H5 y5)) fun _ s6 ⟨σ6,H6,I6,q6⟩=>?_)
   exact aJA (X:=cxCC X N scope cl (s2.heap.objs.size + 1) s2 H2 fp) hc rfl (hi2 (s2.heap.objs.size + 1) s2 H2 fp) (hg2 (s2.heap.objs.size + 1) s2 H2 fp) (he (s2.heap.objs.size + 1) s2 H2 fp) I6 q6 fun σ7 H7 s7 I7 n7=>by
    obtain ⟨m',hm,w7⟩:=hN σ7 H7 n7
    refine ⟨m',hm,i + 1,σ7,H7,I7.unpinned,T.keep _ _ _ st5 fun b hb o e=>(I7.pin (b,o) (An _ (An _ (zd hb e)))).1,fun b hb=>?_,w7⟩
    obtain ⟨o,e,d⟩:=T.obj _ _ st5 b hb
    exact (I7.pin (b,o) (An _ (An _ (zd hb e)))).2.1
 have goal:=aCL loop (T.self X.A 0 { s2 with heap:=h₁,toks:=s2.toks } _ _ st4 loop)
 rw [hC]
 exact goal
theorem aHV {elt t1 i1 t2 i2:Expr} {scope:Scope} {pos:Pos} {N:List Str} {mp:List (Option Nat)} {cl:List (Str×Addr)} {wi:TI} {g:Addr->Ad->Hp->List Addr->TG} {wi2:Addr->Ad->Hp->List Addr->TI} {g2:Addr->Ad->Hp->List Addr->TG} {te:Addr->Ad->Hp->List Addr->TE}
  (hc:X.calm=true) (S:CompScopeC X N mp scope) (hcl:yI X.env.cells scope.names []=some cl) (hi:PI X t1 i1 wi)
  (hg:∀ C s2 H2 fp,PG (cxCC X N scope cl C s2 H2 fp) t1 (g C s2 H2 fp)) (hi2:∀ C s2 H2 fp,PI (cxCC X N scope cl C s2 H2 fp) t2 i2 (wi2 C s2 H2 fp)) (hg2:∀ C s2 H2 fp,PG (cxCC X N scope cl C s2 H2 fp) t2 (g2 C s2 H2 fp)) (he:∀ C s2 H2 fp,PE (cxCC X N scope cl C s2 H2 fp) elt (te C s2 H2 fp))
  (hs:∀ x,BE i1 X.env x=pure x:=by intro _; rfl) (hs2:∀ C x,BE i2 (Iw scope (Cr (C + 1) scope.names cl) C X.env) x=pure x:=by intro _ _; rfl) :
  PE X (.SetComp elt [⟨t1,i1,[],0⟩,⟨t2,i2,[],0⟩] scope pos) (aIH X.prog X.w mp wi g wi2 g2 te):=by
 intro pins s σ H Q I h
 show Ar _ _ (IF (.SetComp elt [⟨t1,i1,[],0⟩,⟨t2,i2,[],0⟩] scope pos) scope X.env (Jq [⟨t1,i1,[],0⟩,⟨t2,i2,[],0⟩] pos) (newSet (.type "set")) (Lq [⟨t1,i1,[],0⟩,⟨t2,i2,[],0⟩]) (Mp [⟨t1,i1,[],0⟩,⟨t2,i2,[],0⟩] X.env)) _ _ s
 refine aGK hc S hcl hi hg hi2 hg2 he hs hs2 I h fun H2 s2 fp σ' H' s' I2 f2 J' q=>?_
 obtain ⟨m,hm,_⟩:=id J'.loc
 exact ⟨m,hm,fun h'' sb=>⟨.ref s2.heap.objs.size,H',jP I2 f2 J' fun b o hb e=>sb.extBut b o hb e,rfl,q⟩⟩
end
theorem aJB {P:At} {w:AV} {K:Af} {a D:Addr} {zs:List V} {g:TG} {te:TE} {NX:St->Hp->Prop} {σ:St} {H:Hp} (Pv:Nat->St->Hp->Prop) (h0:Pv 0 σ H) (hl:∀ i σ H,Pv i σ H->SqT K H a zs)
  (hs:∀ i x σ H,zs[i]?=some x->Pv i σ H->g x σ H fun σ2 H2=>te σ2 H2 fun y H5=>∃ ks k,H5 D=some (SeO P w D ks)/\y=.int k/\ks.length < 4000/\Pv (i + 1) σ2 (upd H5 D (SeO P w D (addK ks k)))) (hd:∀ σ H,Pv zs.length σ H->NX σ H) :
  ∃ W:Nat->Nat->St->Hp->Prop,(∃ m,W 0 m σ H)/\∀ i m σ H,W i m σ H ->
   ((Itt K a).stop i H/\NX σ H)\/((Itt K a).go i H/\∃ N:St->Hp->Prop,(∀ σ' H',N σ' H'->∃ m',m' < m/\W (i + 1) m' σ' H')/\∀ x H',(Itt K a).yld i H x H'->g x σ H' fun σ2 H2=>te σ2 H2 fun y H5=>∃ ks k,H5 D=some (SeO P w D ks)/\y=.int k/\ks.length < 4000/\N σ2 (upd H5 D (SeO P w D (addK ks k)))):=by
 refine ⟨fun i m σ H=>m=zs.length - i/\i<=zs.length/\Pv i σ H,⟨zs.length,by simp,AL _,h0⟩,?_⟩
 rintro i m σ H ⟨rfl,hi,p⟩
 have q:=hl i σ H p
 by_cases hlt:i < zs.length
 ·refine .inr ⟨⟨zs,zs[i],q,by simp [hlt]⟩,Pv (i + 1),fun σ' H' p'=>⟨zs.length - (i + 1),by lia,rfl,hlt,p'⟩,fun x H' y=>?_⟩
  obtain ⟨e,y⟩:=y
  subst e
  exact hs i x σ _ (y zs q) p
 ·have e:i=zs.length:=by lia
  subst e
  exact .inl ⟨⟨zs,q,Ak _⟩,hd σ H p⟩
inductive KeyTs:List Cs->List Str->Prop
 | nil:KeyTs [] []
 | cons {e:Cs} {x:Str} {t:Tok} {es:List Cs} {xs:List Str}:e.key=.str x t->KeyTs es xs->KeyTs (e :: es) (x :: xs)
noncomputable def aDB (w:AV) (K:Af) (a:Addr) (ws:List Str):Prop:=(a == BM)=false/\ws.Nodup/\∃ es n,K.lookup a=some ⟨.type "dict",none,.dict es n,#[]⟩/\Eo w.params es.toList/\KeyTs es.toList ws
theorem aAY {P:At} {w:AV}:∀ {es:List Cs} {ws:List Str},KeyTs es ws->∃ kvs:List (Str×Value),kvs.map (·.1)=ws/\Pairs (strKind P w) es kvs
 | _,_,.nil=>⟨[],rfl,.nil⟩
 | _,_,.cons (e:=e) (x:=x) (t:=t) h r=>by
  obtain ⟨kvs,h1,h2⟩:=aAY (P:=P) (w:=w) r
  exact ⟨(x,e.val) :: kvs,by rw [AA,h1],.cons (by rw [h]; exact strKind_is P w x t) rfl h2⟩
theorem aGL {P:At} {w:AV} {K:Af} {h:Heap} {a:Addr} {es:Array Cs} {n:Nat} {ws:List Str} (X:K.In h) (hl:K.lookup a=some ⟨.type "dict",none,.dict es n,#[]⟩) (hk:Eo w.params es.toList) (ht:KeyTs es.toList ws) (nd:ws.Nodup) :
  ∃ kvs:List (Str×Value),kvs.map (·.1)=ws/\h.DictAt (strKind P w) a kvs n:=by
 obtain ⟨kvs,h1,h2⟩:=aAY (P:=P) (w:=w) ht
 refine ⟨kvs,h1,_,es,X _ _ hl,⟨rfl,rfl,rfl⟩,rfl,fun e he=>?_,h2,by rw [h1]; exact nd⟩
 obtain ⟨x,t,e1,e2⟩:=hk.all e (Ei.mpr he)
 exact ⟨x,by rw [e1]; exact strKind_is P w x t,e2⟩
noncomputable def Itw (ws:List Str):It :=
 ⟨fun i H=>i < ws.length,fun i H v H'=>H'=H/\∃ x,v=.str x/\ws[i]?=some x,fun i H=>ws.length<=i⟩
theorem aHW {P:At} {w:AV} {K:Af} {tg:Expr} {d it:Addr} {ws:List Str} {es:Array Cs} {n:Nat} (hl:K.lookup d=some ⟨.type "dict",none,.dict es n,#[]⟩) (hk:Eo w.params es.toList) (ht:KeyTs es.toList ws) (nd:ws.Nodup) :
  Turn P w K tg (Itw ws) [it] it (fun i h=>h.IsKeyIter it d i ws.length n) where
 mem:=by simp
 obj:=fun i h st b hb=>by
  obtain ⟨oi,a1,a2,a3⟩:=st
  rw [Ae.mp hb]
  exact ⟨_,a1,fun v e=>by rw [a3] at e; cases e⟩
 keep:=fun i h h' st kp=>by
  obtain ⟨oi,a1,a2⟩:=st
  exact ⟨oi,kp it (by simp) _ a1,a2⟩
 item:=by
  intro X hP hw hK hc k pins s σ H E I hf st hg
  subst hP hw hK
  obtain ⟨kvs,ek,dat⟩:=aGL (P:=X.prog) I.kIn hl hk ht nd
  have hlt:k < ws.length:=hg
  have hl2:ws.length=kvs.length:=by rw [<- ek,Ah]
  obtain ⟨⟨ky,x⟩,hx⟩:∃ p,kvs[k]?=some p:=⟨kvs[k],Ax (by lia)⟩
  have hw:ws[k]?=some ky:=by rw [<- ek,AO,hx]; rfl
  rw [hl2] at st
  refine wpAny_pyNext_dict_item (knd:=strKind X.prog X.w) st dat hx fun key g hkey hit' sb=>⟨_,rfl,?_⟩
  have fi:=hf it (by simp)
  obtain ⟨o3,q1,q2,q3⟩:=id hit'
  refine aCk q1 q2 q3 (by decide) ?_
  obtain ⟨t,rfl⟩:=Kc hkey
  refine ⟨.str ky,H,I.turned (t':=s.toks) (fun b o nb e=>by rw [sb.2 b nb]; exact e) fi.1 fi.2.1 fi.2.2.2.1 fi.2.2.2.2.1 fi.2.2.2.2.2,⟨t,rfl⟩,⟨rfl,ky,rfl,hw⟩,by rw [hl2]; exact hit',fun b hb=>?_⟩
  rw [Ae.mp hb]; exact fi.1
 done:=by
  intro X hP hw hK hc k pins s σ H E I hf st hg
  subst hP hw hK
  obtain ⟨kvs,ek,dat⟩:=aGL (P:=X.prog) I.kIn hl hk ht nd
  have hend:ws.length<=k:=hg
  have hl2:ws.length=kvs.length:=by rw [<- ek,Ah]
  rw [hl2] at st
  refine wpAny_pyNext_dict_end (knd:=strKind X.prog X.w) (I.ok.hd hc) st dat (Cg (by lia)) fun g eb=>⟨rfl,?_⟩
  have fi:=hf it (by simp)
  exact I.turned (t':=s.toks) (fun b o nb e=>eb b o nb e) fi.1 fi.2.1 fi.2.2.2.1 fi.2.2.2.2.1 fi.2.2.2.2.2
 self:=fun A i s Q E st h=>yz st h
section
variable {X:Cx} {tg:Expr}
noncomputable def iTop (w:AV) (K:Af) (to:TE):TI:=fun σ H R=>to σ H fun x H1=>∃ (d:Addr) (ws:List Str),x=.ref d/\aDB w K d ws/\R (Itw ws) H1
theorem aKj {e:Expr} {te:TE} (he:PE X e te):PI X tg e (iTop X.w X.K te):=by
 intro pins s σ H R I h
 refine thn (he pins s σ H _ I h) fun v s1 ⟨y,H1,I1,r1,d,ws,ey,⟨hsys,nd,es,n,hl,hk,ht⟩,r⟩=>?_
 subst ey
 cases r1
 obtain ⟨kvs,ek,dat⟩:=aGL (P:=X.prog) I1.kIn hl hk ht nd
 refine wpAny_pyIter_dict (knd:=strKind X.prog X.w) (kvs:=kvs) (ep:=n) hsys dat ?_
 refine ⟨_,_,_,_,H1,rfl,I1.kept (t':=s1.toks) fun b o e=>Ac _ e,aHW hl hk ht nd,⟨_,Ag _ rfl,rfl,?_⟩,fun b hb=>?_,r⟩
 ·rw [<- ek,Ah]; rfl
 ·have e:b=s1.heap.objs.size:=by simpa using hb
  subst e
  exact I1.fpOk (Ak _) (I1.hok.fresh (Ak _))
theorem aJC {ws:List Str} {g:TG} {tb:TS} {D:Ends} {σ:St} {H:Hp} (Pv:Nat->St->Hp->Prop) (h0:Pv 0 σ H)
  (hs:∀ i x σ H,ws[i]?=some x->Pv i σ H->g (.str x) σ H fun σ2 H2=>tb { D with nx:=Pv (i + 1),ct:=Pv (i + 1),bk:=D.nx } σ2 H2) (hd:∀ σ H,Pv ws.length σ H->D.nx σ H) :
  ∃ W:Nat->Nat->St->Hp->Prop,(∃ m,W 0 m σ H)/\∀ i m σ H,W i m σ H ->
   ((Itw ws).stop i H/\D.nx σ H)\/((Itw ws).go i H/\∃ N:St->Hp->Prop,(∀ σ' H',N σ' H'->∃ m',m' < m/\W (i + 1) m' σ' H')/\∀ x H',(Itw ws).yld i H x H'->g x σ H' fun σ2 H2=>tb { D with nx:=N,ct:=N,bk:=D.nx } σ2 H2):=by
 refine ⟨fun i m σ H=>m=ws.length - i/\i<=ws.length/\Pv i σ H,⟨ws.length,by simp,AL _,h0⟩,?_⟩
 rintro i m σ H ⟨rfl,hi,p⟩
 by_cases hlt:i < ws.length
 ·refine .inr ⟨hlt,Pv (i + 1),fun σ' H' p'=>⟨ws.length - (i + 1),by lia,rfl,hlt,p'⟩,fun v H' y=>?_⟩
  obtain ⟨rfl,x,rfl,hx⟩:=y
  exact hs i x σ H' hx p
 ·have e:i=ws.length:=by lia
  subst e
  exact .inl ⟨Ak _,hd σ H p⟩
end
variable {X:Cx}
theorem aAZ (hc:X.calm=true):qW X (.builtin "any") (fun xs H Q=>∃ (p:Addr) (bs:List Bool),xs=[.ref p]/\SqT X.K H p (bs.map V.bl)/\Q (.bl (bs.any id)) H):=by
 intro pins s σ H xs us Q I r h
 obtain ⟨p,bs,rfl,hS,q⟩:=h
 obtain ⟨u,rfl,rx⟩:=jj r
 cases rx
 obtain ⟨its,rv,pl,hz⟩:=I.tuple hS
 have hp:s.heap.IsTuple p its.toArray:=pl
 have hlt:p < s.heap.objs.size:=pl.lt
 have len:=rv.length
 rw [Ah] at len
 refine call_any_walk (EI hp ?_)
 refine ⟨_,_,_,_,_,_,fun i=>bs.getD i false,rfl,ND (A:=X.A.in1) (I.ok.hd hc) s.heap.objs.size p (AC hlt) its.toArray,⟨⟨_,Ag _ rfl,rfl,rfl⟩,hp.push _⟩,fun i v s3 Q3 E3 hP hQ=>?_,fun h' tk hk=>⟨.bl (bs.any id),H,I.kept fun b o e=>hk b o (fun z=>?_) (Ac _ e),?_,q⟩⟩
 ·have hv':its[i]?=some v:=by simpa using hP
  have hi:i < bs.length:=by rw [len]; exact (Aq.mp hv').1
  obtain ⟨u,e1,r1⟩:=rv.get (i:=i) (x:=.bl (bs.getD i false)) (by rw [AO,BR,Ax hi]; rfl)
  rw [hv'] at e1
  cases e1
  rw [show v=JF (bs.getD i false) from r1]
  exact DI hQ
 ·exact absurd (Ap e) (by rw [Ae.mp z]; exact BC _)
 ·show RelV (.bl (bs.any id)) _
  rw [<- aFi bs,len,show its.toArray.size=its.length by simp]
  rfl
end L2
namespace L2
open PySem PySem.Spec PyProof.Rows
section
variable {prog:At} {w:AV} {A:AY} {E:Value->Ad->Prop} {s:Ad} {it d:Addr} {i ep:Nat} {o:Obj} {es:Array Cs} {e:Cs}
end
section
variable {X:Cx} {pins:List (Addr×Obj)} {σ:St} {H:Hp} {s:Ad}
theorem Inv.frozenE {d:Addr} {o:Obj} {φ:Heap->Prop} (I:Inv X pins σ H s) (e:H d=some (.ext φ)) (ho:s.heap.get? d=some o):Inv X pins σ (upd H d (.frz o (.ext φ))) s:=by
 have ne:∀ b u,H b=some u->u≠.ext φ->b≠d:=fun b u eb hu z=>by rw [z,e] at eb; cases eb; exact hu rfl
 refine I.step (h':=s.heap) (g':=s.gens) (d':=s.drawn) (t':=s.toks) (ch:=[]) (fun _ z=>nomatch z) (fun b o _ _ _ e _=>e) (fun b o _ _ _ e _=>⟨o.slots,e⟩) (fun b ob _ _ n=>?_) (fun b o _ e=>⟨o,e⟩) (fun b xs eb=>?_) (fun b ob u eb=>?_) (fun b ps eb=>⟨#[],?_⟩) (fun m hm=>hm) (fun b u eb=>?_) I.bare
 ·rw [zH (fun z=>by rw [z,e] at n; cases n)]; exact n
 ·rw [zH (ne b _ eb (by intro z; cases z))]; exact eb
 ·rw [zH (ne b _ eb (by intro z; cases z))]; exact eb
 ·rw [zH (ne b _ eb (by intro z; cases z)),eb]; simp
 ·by_cases hb:b=d
  ·subst hb
   rw [zC] at eb
   cases eb
   exact ⟨ho,I.hok b _ e⟩
  ·rw [zH hb] at eb
   refine (I.hok b u eb).stay (fun c v' _ r=>r) (fun c r=>?_) fun c xs r=>?_
   ·rw [zH (ne c _ r (by intro z; cases z))]; exact r
   ·rw [zH (ne c _ r (by intro z; cases z))]; exact r
end
theorem KTB.get {H:Hp} {kvs:List (List Bool×V)} {xs:List (List Bool×Addr×Value)} (r:KTB H kvs xs) {i:Nat} {k:List Bool} {x:V} (h:kvs[i]?=some (k,x)):∃ q u,xs[i]?=some (k,q,u)/\Kb H q k/\RelV x u:=by
 revert i
 induction r with
 | nil=>intro i h; simp at h
 | @cons p y ps ys a b ih =>
  intro i h
  cases i with
  | zero =>
   simp at h
   subst h
   obtain ⟨a1,a2,a3⟩:=a
   obtain ⟨y1,y2,y3⟩:=y
   simp only at a1 a2 a3
   subst a1
   exact ⟨y2,y3,rfl,a2,a3⟩
  | succ i =>
   obtain ⟨q,u,h1,h2,h3⟩:=ih (by simpa using h)
   exact ⟨q,u,by simpa using h1,h2,h3⟩
section
variable {X:Cx}
end
section
variable {prog:At} {w:AV} {A:AY} {E:Value->Ad->Prop} {s:Ad} {it d:Addr} {i ep:Nat} {o:Obj} {es:Array Cs} {e:Cs}
theorem aB3 (hd:(d == BM)=false) :
  MeetsIn prog w (Builtin.«dict.values» ⟨[.ref d],[]⟩) (fun _ R s=>s.TypeIs (.ref d) "dict"/\R (.ok (.ret (.ref s.heap.objs.size))) { s with heap:=s.heap.push { cls:=.type "dict_values",data:=.fields #[.ref d] } }) :=
 .of_wp fun A R s ⟨hT,h⟩=>by
  unfold Builtin.«dict.values»
  wp_walk using Gq hT
  exact ⟨_,rfl,h⟩
theorem aCM {v:Addr} {Q:Value->Ad->Prop} (hv:s.heap.IsValuesView v d) (ho:s.heap.get? d=some o) (hd:o.data=.dict es ep)
  (h:Q (.ref s.heap.objs.size) { s with heap:=s.heap.push { cls:=.type "dict_valueiterator",data:=.fields #[.ref d,.int 0 0,.int es.size 0,.int ep 0] } }):Ar (AB prog w) A (FH (.ref v)) Q E s:=by
 obtain ⟨ov,a1,a2,a3⟩:=id hv
 refine DN hv.typeIs IK (AN IK hv.typeIs F.entry_dict_values_iter ?_ (F.args_dict_values_iter_1 _))
 unfold Builtin.«dict_values.__iter__» Builtin.Dict_items.dictOf Builtin.Dict_items.newIterator
 wp_walk using Ci a1 a3 (x:=.ref d) rfl,Cp ho hd,DT ho hd
 have hown:Da "dict_valueiterator"=false:=by decide
 refine ⟨_,rfl,"dict_valueiterator",_,⟨_,Ag _ rfl,rfl⟩,CO.lookup,?_⟩
 simpa [Dr,hown] using h
noncomputable abbrev jC (h:Heap) (it d:Addr) (i n ep:Nat):Prop:=h.get? it=some { cls:=.type "dict_valueiterator",dict:=none,data:=.fields #[.ref d,.int i 0,.int n 0,.int ep 0],slots:=#[] }
theorem aCN {Q:Option Value->Ad->Prop} (hit:jC s.heap it d i es.size ep) (ho:s.heap.get? d=some o) (hd:o.data=.dict es ep) (hx:es[i]?=some e)
  (h:∀ h',jC h' it d (i + 1) es.size ep->Cc it s.heap h'->Q (some e.val) { s with heap:=h' }):Ar (AB prog w) A (Dq (.ref it)) Q E s:=by
 have hT:s.TypeIs (.ref it) "dict_valueiterator":=⟨_,hit,rfl⟩
 unfold Dq
 refine Aa (CT (Bl (name:=CW "__next__") hT CO (AN CO hT Gf ?_ (FW _))))
 wp_walk using DD hT,DH hit rfl,Cp ho hd,DT ho hd,Ed hT
 rw [if_neg (show ¬ ((i:Int) < 0) by lia),BZ,hx]
 have hown:(if Da "dict_valueiterator"=true then 2 else 0)=0:=by decide
 obtain ⟨hp,g,dr,tk,os⟩:=s
 refine Aa (Aa (DD hT (Ab (Aa (Ed hT (Aa ?_))))))
 rw [hown]
 refine Ct hit (by show 1 < 4; decide) fun h1 e1 s1=>Aa (Bw ?_)
 replace e1:jC h1 it d (i + 1) es.size ep:=by
  unfold jC
  rw [show ((i + 1:Nat):Int)=(i:Int) + 1 by lia]
  exact e1
 have t1:IH ⟨h1,g,dr,tk,os⟩ (.ref it) "dict_valueiterator":=⟨_,e1,rfl⟩
 refine Aa (Ed t1 (Aa (Ed t1 ?_)))
 exact (show Ar _ _ (pure e.val) _ _ ⟨h1,g,dr,tk,os⟩ from Ab (Ab ⟨_,rfl,Ab (h h1 e1 s1)⟩))
theorem aCO {Q:Option Value->Ad->Prop} (hh:A.handled=none) (hit:jC s.heap it d i es.size ep) (ho:s.heap.get? d=some o) (hd:o.data=.dict es ep) (hx:es[i]?=none)
  (h:∀ h',Iy it s.heap h'->Q none { s with heap:=h' }):Ar (AB prog w) A (Dq (.ref it)) Q E s:=by
 have hT:s.TypeIs (.ref it) "dict_valueiterator":=⟨_,hit,rfl⟩
 unfold Dq
 refine Aa (CT (Bl (name:=CW "__next__") hT CO (AN CO hT Gf ?_ (FW _))))
 wp_walk using DD hT,DH hit rfl,Cp ho hd,DT ho hd,Ed hT
 rw [if_neg (show ¬ ((i:Int) < 0) by lia),BZ,hx]
 have hown:(if Da "dict_valueiterator"=true then 2 else 0)=0:=by decide
 obtain ⟨hp,g,dr,tk,os⟩:=s
 refine Aa (Aa (DD hT (Ab (Aa ?_))))
 rw [hown]
 refine Ct hit (by show 0 < 4; decide) fun h1 e1 s1=>Aa ?_
 simp only [Mk,KO,Mc]
 refine Aa (Bd (Aa (m:=Ef _ _) (Ey (a:=BY) rfl (Bd (Aa (GG ?_)) (by size_fits)))) (by size_fits))
 rw [show A.in1.handled=none from hh]
 refine Aa (Ab (Iz ?_)); refine Aa (DW (T:="StopIteration") (b:=true) ⟨_,Ag _ rfl,rfl⟩ Gh (Ab (h _ ?_)))
 exact (s1.extBut.push _).push _
end
noncomputable def Itv (P:At) (w:AV) (d:Addr) (o:Obj) (xs:List (List Bool×Addr×Value)) (kvs:List (List Bool×V)):It :=
 ⟨fun i H=>H d=some (.frz o (DbO P w d xs))/\KTB H kvs xs/\i < kvs.length,fun i H v H'=>H'=H/\∃ k,kvs[i]?=some (k,v),fun i H=>H d=some (.frz o (DbO P w d xs))/\KTB H kvs xs/\kvs.length<=i⟩
theorem aCP {P:At} {w:AV} {K:Af} {tg:Expr} {d it:Addr} {o:Obj} {xs:List (List Bool×Addr×Value)} {kvs:List (List Bool×V)} {de:Array Cs} {ep:Nat} (hd:o.data=.dict de ep) :
  Turn P w K tg (Itv P w d o xs kvs) [it] it (fun i h=>jC h it d i de.size ep) where
 mem:=by simp
 obj:=fun i h st b hb=>by
  rw [Ae.mp hb]
  exact ⟨_,st,fun v e=>by cases e⟩
 keep:=fun i h h' st kp=>kp it (by simp) _ st
 item:=by
  intro X hP hw hK hc k pins s σ H E I hf st hg
  subst hP hw hK
  obtain ⟨hfz,hkt,hlt⟩:=hg
  obtain ⟨hgo,⟨o2,es2,ep2,e2,c2,d2,l2⟩,_⟩:=I.hok d _ hfz
  rw [hgo] at e2; cases e2
  rw [hd] at d2; cases d2
  obtain ⟨⟨ky,x⟩,hx⟩:∃ p,kvs[k]?=some p:=⟨kvs[k],Ax hlt⟩
  obtain ⟨q,u,hu,hq,ru⟩:=hkt.get hx
  have he:de[k]?=some (Cu (BI (zm X.prog X.w)) (ky,q,u)):=by
   rw [<- BA,l2,AO,hu]; rfl
  refine aCN st hgo hd he fun g hit' sb=>⟨_,rfl,?_⟩
  have fi:=hf it (by simp)
  refine aCk hit' rfl rfl (by decide) ?_
  refine ⟨x,H,I.turned (t':=s.toks) (fun b o nb e=>by rw [sb.2 b nb]; exact e) fi.1 fi.2.1 fi.2.2.2.1 fi.2.2.2.2.1 fi.2.2.2.2.2,ru,⟨rfl,ky,hx⟩,hit',fun b hb=>?_⟩
  rw [Ae.mp hb]; exact fi.1
 done:=by
  intro X hP hw hK hc k pins s σ H E I hf st hg
  subst hP hw hK
  obtain ⟨hfz,hkt,hend⟩:=hg
  obtain ⟨hgo,⟨o2,es2,ep2,e2,c2,d2,l2⟩,_⟩:=I.hok d _ hfz
  rw [hgo] at e2; cases e2
  rw [hd] at d2; cases d2
  have he:de[k]?=none:=by
   rw [<- BA,l2,AO,Cg (by rw [<- Ds hkt]; exact hend)]; rfl
  refine aCO (I.ok.hd hc) st hgo hd he fun g eb=>⟨rfl,?_⟩
  have fi:=hf it (by simp)
  exact I.turned (t':=s.toks) (fun b o nb e=>eb b o nb e) fi.1 fi.2.1 fi.2.2.2.1 fi.2.2.2.2.1 fi.2.2.2.2.2
 self:=fun A i s Q E st h=>JS (d:=d) (i:=i) (n:=de.size) (ep:=ep) ⟨_,st,rfl,rfl⟩ h
section
variable {X:Cx}
noncomputable def aHX (P:At) (w:AV) (to:TE):TI:=fun σ H R=>to σ H fun x H1=>∃ (d:Addr) (xs:List (List Bool×Addr×Value)) (kvs:List (List Bool×V)),x=.ref d/\(d == BM)=false /\
 ((H1 d=some (DbO P w d xs)/\∀ o,R (Itv P w d o xs kvs) (upd H1 d (.frz o (DbO P w d xs))))\/∃ o,H1 d=some (.frz o (DbO P w d xs))/\R (Itv P w d o xs kvs) H1)
theorem aEg {tg e:Expr} {te:TE} {apos cpos:Pos} (he:PE X e te)
  (hbase:EZ e "values" X.env (eval e X.env)=eval e X.env:=by rfl) (hline:(apos.endLine == cpos.line)=true:=by rfl) :
  PI X tg (.Call (.Attribute e "values" apos) [] [] cpos) (aHX X.prog X.w te):=by
 intro pins s σ H R I h
 refine FJ hbase hline (thn (he pins s σ H _ I h) fun v s1 ⟨y,H1,I1,r1,d,xs,kvs,ey,hsys,q⟩=>?_)
 subst ey
 cases r1
 obtain ⟨o,es1,ep,e1,ex,e2,e3⟩:∃ o es ep,s1.heap.get? d=some o/\o.ExactDict/\o.data=.dict es ep/\es.toList=xs.map (Cu (BI (zm X.prog X.w))):=by
  rcases q with ⟨q,_⟩ | ⟨o,q,_⟩
  ·exact (I1.hok d _ q).1
  ·exact (I1.hok d _ q).2.1
 have hT:s1.TypeIs (.ref d) "dict":=⟨o,e1,ex.1⟩
 refine ⟨"dict","dict.values",Lx,FV,La,hT,fun a e=>by cases e; exact ⟨o,e1,ex.2.1⟩,?_⟩
 refine Dl rfl (GN ?_)
 refine LN FV hT Kw (JT _) (aB3 hsys) ⟨hT,?_⟩
 obtain ⟨H2,I2,fz,r⟩:∃ H2,Inv X pins σ H2 s1/\H2 d=some (.frz o (DbO X.prog X.w d xs))/\R (Itv X.prog X.w d o xs kvs) H2:=by
  rcases q with ⟨q,r⟩ | ⟨o',q,r⟩
  ·exact ⟨_,I1.frozenE q e1,zC,r o⟩
  ·have:o'=o:=by
    have:=(I1.hok d _ q).1
    rw [e1] at this; cases this; rfl
   subst this
   exact ⟨H1,I1,q,r⟩
 have I3:Inv X pins σ H2 { s1 with heap:=s1.heap.push { cls:=.type "dict_values",data:=.fields #[.ref d] } }:=I2.kept (t':=s1.toks) fun b o e=>Ac _ e
 refine aCM (d:=d) (o:=o) (es:=es1) (ep:=ep) ⟨_,Ag _ rfl,rfl,rfl⟩ (Ac _ e1) e2 ?_
 refine ⟨_,_,_,_,H2,rfl,I3.kept (t':=s1.toks) fun b o e=>Ac _ e,aCP (o:=o) (xs:=xs) (kvs:=kvs) e2,Ag _ rfl,fun b hb=>?_,r⟩
 have e:b=(s1.heap.push { cls:=.type "dict_values",data:=.fields #[.ref d] }).objs.size:=by simpa using hb
 subst e
 exact I3.fpOk (Ak _) (I3.hok.fresh (Ak _))
end
theorem aDC {P:At} {w:AV} {d D:Addr} {o:Obj} {xs:List (List Bool×Addr×Value)} {kvs:List (List Bool×V)} {g:TG} {wi:TI} {g2:TG} {te:TE} {R:Hp->Prop} {σ:St} {H:Hp} (Pv:Nat->St->Hp->Prop) (h0:Pv 0 σ H) (hl:∀ i σ H,Pv i σ H->H d=some (.frz o (DbO P w d xs))/\KTB H kvs xs)
  (hs:∀ i k x σ H,kvs[i]?=some (k,x)->Pv i σ H->g x σ H fun σ3 H3=>tInS P w D wi g2 te (Pv (i + 1)) σ3 H3) (hd:∀ σ H,Pv kvs.length σ H->R H) :
  ∃ W:Nat->Nat->St->Hp->Prop,(∃ m,W 0 m σ H)/\∀ i m σ2 H2,W i m σ2 H2 ->
   ((Itv P w d o xs kvs).stop i H2/\R H2)\/((Itv P w d o xs kvs).go i H2/\∃ N:St->Hp->Prop,(∀ σ' H',N σ' H'->∃ m',m' < m/\W (i + 1) m' σ' H')/\∀ x H',(Itv P w d o xs kvs).yld i H2 x H'->g x σ2 H' fun σ3 H3=>tInS P w D wi g2 te N σ3 H3):=by
 refine ⟨fun i m σ H=>m=kvs.length - i/\i<=kvs.length/\Pv i σ H,⟨kvs.length,by simp,AL _,h0⟩,?_⟩
 rintro i m σ H ⟨rfl,hi,p⟩
 obtain ⟨q1,q2⟩:=hl i σ H p
 by_cases hlt:i < kvs.length
 ·refine .inr ⟨⟨q1,q2,hlt⟩,Pv (i + 1),fun σ' H' p'=>⟨kvs.length - (i + 1),by lia,rfl,hlt,p'⟩,fun v H' y=>?_⟩
  obtain ⟨rfl,k,hx⟩:=y
  exact hs i k v σ _ hx p
 ·have e:i=kvs.length:=by lia
  subst e
  exact .inl ⟨⟨q1,q2,Ak _⟩,hd σ H p⟩
section
variable {l:Addr} {items:Array Value} {n:Nat} {dd:Option Addr} {sl:Array (Option Value)} {x:Value} {k:Int} {t:Tok}
end
section
variable {X:Cx} {o e f:Expr} {td ty tx:TE} {apos cpos:Pos}
end
variable {X:Cx}
section
variable {o e:Expr} {es:List Expr} {to:TE} {t:TA} {name:Str} {apos cpos:Pos} {id:String} {r:V->List V->Hp->VK->Prop}
end
end L2
namespace L2
open PySem PySem.Spec PyProof.Rows
section
variable {X:Cx} {E:Value->Ad->Prop} {N:List Str} {scope:Scope} {cl:List (Str×Addr)} {C:Addr} {s2:Ad} {H2:Hp} {fp:List Addr}
variable {CX:CXT} {P:At} {w:AV} {K:Af} {mg:Str->Option Value} {base:Heap} {qual:Str} {f:Addr} {cd:Value} {A:AY} {outer:List Env} {s:Ad} {H:Hp} {E':XK}
end
section
open PySem.SeqAt
open PySem.AutoSeq1 (wpAny_loadPart')
open PySem.MeetsSeq PySem.MeetsSeq2 PySem.MeetsSeq3
end
variable {X:Cx}
end L2
namespace L2
open PySem PySem.Spec PyProof.Rows
section
variable {prog:At} {w:AV} {A:AY} {E:Value->Ad->Prop}
theorem aCQ {s:Ad} {id:String} {b:Builtin} {args:List Value} {kw:List (Str×Value)} {Q:Value->Ad->Prop} (hk:builtinKind id=none) (hp:plainId id=true) (hb:MZ table id=some b) (ha:Ib id ⟨args,kw⟩)
  (hc:Ar (AB prog w) A.in1 (b ⟨args,kw⟩) (fun fin s'=>match fin with
   | .done f=>(match (Except.ok f:JV) with | .ok (.ret v)=>Q v s' | .ok _=>False | .error e=>E e s')
   | .again c'=>c'.quiet=true/\CA (AB prog w) A c' (fun r s'=>match r with | .ok (.ret v)=>Q v s' | .ok _=>False | .error e=>E e s') s') E s) :
  Ar (AB prog w) A (call (.builtin id) args kw) Q E s:=by
 refine Fx (Fc hp hb ?_)
 simp only [IS,hk]
 cases hsig:Manifest.signature? id with
 | none=>exact Ab hc
 | some sig =>
  simp only [Ib,hsig] at ha
  have h2:MC id sig ⟨args,kw⟩=pure ():=ha
  exact (show Ar _ A.in1 (MC id sig ⟨args,kw⟩) _ _ s from by rw [h2]; exact Ab hc)
variable {R:JV->Ad->Prop} {I:Addr} {fp wr:List Addr} {n:Nat} {P:Nat->Value->Prop} {St:Nat->Heap->Prop} {kw:List (Str×Value)}
theorem aBc:(toString "max"++toString ".loop":String)="max.loop":=by decide
theorem aJD (W:NI prog w A.in1 I fp wr n P St) (bt:Nat->Nat->Bool) (hcmp:CmpOf prog w A.in1 .Gt P bt) (S:Addr) (hSf:S ∉ fp) :
  ∀ (k j:Nat) (s:Ad) (vb:Value) (c:Nat),n - (j + 1)=k->j + 1<=n->St (j + 1) s.heap->P (Gg bt j) vb->s.heap.get? S=some { cls:=.type "list",dict:=none,data:=.seq #[vb,vb] c,slots:=#[] } ->
  (∀ v h' tk,P (Gg bt (n - 1)) v->(∀ b o,b ∉ wr->b≠S->s.heap.get? b=some o->h'.get? b=some o)->R (.ok (.ret v)) { s with heap:=h',toks:=tk }) ->
  CA (AB prog w) A (.builtin "max.loop" ⟨[.ref I,.none,.ref S],kw⟩) R s:=by
 have hSw:S ∉ wr:=fun h=>hSf (W.sub _ h)
 intro k
 induction k with
 | zero =>
  intro j s vb c hk hj hst hPb hS hR
  have hin:j + 1=n:=by lia
  refine BS IT ?_; rw [Cq DX _]
  refine (show Ar _ A.in1 (KN (.ref S) >>= _) _ _ s from Aa (CF hS rfl (show Ar _ A.in1 (Mf (Dq (.ref I)) _ >>= _) _ _ s from Aa (Gj (W.done s _ _ (hin ▸ hst) fun h' tk hk'=>?_)))))
  have hS':=hk' S _ hSw hS
  refine (show Ar _ A.in1 (Mt S (fun _=>#[]) >>= _) _ _ _ from Aa (FU hS' rfl (Aa (EN (Ab ?_)))))
  exact hR vb _ tk (by rw [<- hin]; exact hPb) fun b o hbw hbS e=>(AF _ _ (BT hbS)).trans (hk' b o hbw e)
 | succ k ih =>
  intro j s vb c hk hj hst hPb hS hR
  have hlt:j + 1 < n:=by lia
  refine BS IT ?_; rw [Cq DX _]
  refine (show Ar _ A.in1 (KN (.ref S) >>= _) _ _ s from Aa (CF hS rfl (show Ar _ A.in1 (Mf (Dq (.ref I)) _ >>= _) _ _ s from Aa (Gj (W.item (j + 1) s _ _ hlt hst fun v h' tk hP hst' hk'=>?_)))))
  have hS':=hk' S _ hSw hS
  refine (show Ar _ A.in1 (Mf (Iq [v,v] (richCompare .Gt v vb >>= _)) _ >>= _) _ _ _ from Aa (Gj (Bw (Aa (hcmp (j + 1) (Gg bt j) v vb _ _ _ hP hPb (Aa (Bw (DI (Aa (EN (Ab ?_)))))))))))
  cases hb:bt (j + 1) (Gg bt j) with
  | true =>
   simp only [if_true]
   refine Aa (FU hS' rfl (Aa (EN ?_))); rw [aBc]
   refine Ab ⟨Ec DX _,ih (j + 1) _ v _ (by lia) hlt (W.frame _ _ _ hst' fun b hbf o e=>(AF _ _ (fun h:S=b=>hSf (by rw [h]; exact hbf))).trans e) (by simp only [Gg,hb,if_true]; exact hP) (AQ _ hS' rfl) fun v' h'' tk'' hP' hk''=>?_⟩
   exact hR v' h'' tk'' hP' fun b o hbw hbS e=>hk'' b o hbw hbS ((AF _ _ (BT hbS)).trans (hk' b o hbw e))
  | false =>
   simp only [BN,if_false]
   refine Aa (EN ?_); rw [aBc]
   refine Ab ⟨Ec DX _,ih (j + 1) _ vb c (by lia) hlt hst' (by simp only [Gg,hb,BN,if_false]; exact hPb) hS' fun v' h'' tk'' hP' hk''=>?_⟩
   exact hR v' h'' tk'' hP' fun b o hbw hbS e=>hk'' b o hbw hbS (hk' b o hbw e)
theorem aHY (W:NI prog w A.in1 I fp wr n P St) (bt:Nat->Nat->Bool) (hcmp:CmpOf prog w A.in1 .Gt P bt) (S:Addr) (hSf:S ∉ fp) {s:Ad} {c:Nat} {kn:Str} {d:Value} (hst:St 0 s.heap)
  (hS:s.heap.get? S=some { cls:=.type "list",dict:=none,data:=.seq #[] c,slots:=#[] })
  (hR:∀ v h' tk,(if n=0 then v=d else P (Gg bt (n - 1)) v)->(∀ b o,b ∉ wr->b≠S->s.heap.get? b=some o->h'.get? b=some o)->R (.ok (.ret v)) { s with heap:=h',toks:=tk }) :
  CA (AB prog w) A (.builtin "max.loop" ⟨[.ref I,.none,.ref S],[(kn,d)]⟩) R s:=by
 have hSw:S ∉ wr:=fun h=>hSf (W.sub _ h)
 refine BS IT ?_; rw [Cq DX _]
 refine (show Ar _ A.in1 (KN (.ref S) >>= _) _ _ s from Aa (CF hS rfl ?_))
 by_cases h0:n=0
 ·refine (show Ar _ A.in1 (Mf (Dq (.ref I)) _ >>= _) _ _ s from Aa (Gj (W.done s _ _ (h0 ▸ hst) fun h' tk hk'=>?_)))
  refine (show Ar _ A.in1 (rule _ >>= _) _ _ _ from Aa (CK (Ab ?_)))
  exact hR d h' tk (by rw [if_pos h0]) fun b o hbw _ e=>hk' b o hbw e
 ·have hn:0 < n:=by lia
  refine (show Ar _ A.in1 (Mf (Dq (.ref I)) _ >>= _) _ _ s from Aa (Gj (W.item 0 s _ _ hn hst fun v h' tk hP hst' hk'=>?_)))
  have hS':=hk' S _ hSw hS
  refine (show Ar _ A.in1 (Mt S (fun _=>#[v,v]) >>= _) _ _ _ from Aa (FU hS' rfl ?_)); rw [aBc]
  refine Ab ⟨Ec DX _,aJD W bt hcmp S hSf _ 0 _ v _ rfl hn (W.frame _ _ _ hst' fun b hbf o e=>(AF _ _ (fun h:S=b=>hSf (by rw [h]; exact hbf))).trans e) hP (AQ _ hS' rfl) fun v' h'' tk'' hP' hk''=>?_⟩
  exact hR v' h'' tk'' (by rw [if_neg h0]; exact hP') fun b o hbw hbS e=>hk'' b o hbw hbS ((AF _ _ (BT hbS)).trans (hk' b o hbw e))
theorem aGM (a d:Value):Ib "max" ⟨[a],[("default",d)]⟩:=by unfold Ib; kernel_rfl
theorem aGN {s:Ad} {x d:Value} {Q:Value->Ad->Prop}
  (h:Ar (AB prog w) A.in1 (FH x) (fun it s₂=>∃ I fp wr n P St bt,it=.ref I/\NI prog w A.in1 I fp wr n P St/\St 0 s₂.heap/\(∀ b∈fp,b < s₂.heap.objs.size)/\CmpOf prog w A.in1 .Gt P bt /\
   ∀ v h' tk,(if n=0 then v=d else P (Gg bt (n - 1)) v)->(∀ b o,b ∉ wr->s₂.heap.get? b=some o->h'.get? b=some o)->Q v { s₂ with heap:=h',toks:=tk }) E s) :
  Ar (AB prog w) A (call (.builtin "max") [x] [("default",d)]) Q E s:=by
 refine aCQ F.kind_max F.plain_max F.entry_max (aGM _ _) ?_
 refine (show Ar _ A.in1 (GW "max" ["key","default"] 0 ⟨[],[("default",d)]⟩ >>= _) _ _ s from Aa (Ey (show GW "max" ["key","default"] 0 ⟨[],[("default",d)]⟩=pure [none,some d] from rfl) (Aa (Ab ?_))))
 refine Aa (AT h (fun it s₂ h₂=>?_) fun _ _ e=>e)
 obtain ⟨I,fp,wr,n,P,St,bt,rfl,W,hst,hfp,hcmp,hQ⟩:=h₂
 refine Aa (Bd ?_); rw [aBc]
 have hSf:s₂.heap.objs.size ∉ fp:=fun hm=>BC _ (hfp _ hm)
 refine Ab ⟨Ec DX _,aHY W bt hcmp s₂.heap.objs.size hSf (W.frame _ _ _ hst fun b _ o e=>Ac _ e) (Ag _ rfl) fun v h' tk hP hk=>?_⟩
 exact hQ v h' tk hP fun b o hbw e=>hk b o hbw (AC (Ap e)) (Ac _ e)
end
theorem aDD (f:Nat->Int):∀ j,Gg (fun i k=>decide (f i > f k)) j<=j/\∀ i,i<=j->f i<=f (Gg (fun i k=>decide (f i > f k)) j)
 | 0=>⟨Ak _,fun i hi=>by rw [Nat.le_zero.mp hi]; exact Mw _⟩
 | j + 1=>by
  obtain ⟨h1,h2⟩:=aDD f j
  unfold Gg
  by_cases c:f (j + 1) > f (Gg (fun i k=>decide (f i > f k)) j)
  ·rw [if_pos (decide_eq_true c)]
   refine ⟨Ak _,fun i hi=>?_⟩
   rcases Eu i (j + 1) with h | h
   ·have:=h2 i (by lia); lia
   ·rw [show i=j + 1 by lia]; exact Mw _
  ·rw [if_neg (fun z=>c (of_decide_eq_true z))]
   refine ⟨by lia,fun i hi=>?_⟩
   rcases Eu i (j + 1) with h | h
   ·exact h2 i (by lia)
   ·rw [show i=j + 1 by lia]; lia
section
variable {X:Cx} {a:Expr} {ta:TE} {p kp pos p3:Pos} {j:Nat}
theorem aJE:BW "max"=some (.builtin "max"):=by decide +kernel
noncomputable def aLu (K:Af) (d:Int) (ta:TE):TE:=fun σ H Q=>ta σ H fun x H1=>∃ (p:Addr) (ns:List Int),x=.ref p/\SqT K H1 p (ns.map V.int)/\∀ m:Int,(if ns=[] then m=d else m∈ns/\∀ y∈ns,y<=m)->Q (.int m) H1
theorem aJF {d:Int} (hc:X.calm=true) (hm:X.mg "max"=none) (ha:PE X a ta) (hg:Gl X "max":=by rfl) (hs:AW [a] X.env=[(false,eval a X.env)]:=by rfl) :
  PE X (.Call (.Name "max" p) [a] [⟨some "default",.Constant (.int d) j p3,kp⟩] pos) (aLu X.K d ta):=by
 intro pins s σ H Q I h
 refine Cb (qT I hg hm aJE ?_)
 refine callWith_kw (thn ((zB ha zE hs) pos pins s σ H (fun vs H1=>match vs with
  | [x]=>∃ (p:Addr) (ns:List Int),x=.ref p/\SqT X.K H1 p (ns.map V.int)/\∀ m:Int,(if ns=[] then m=d else m∈ns/\∀ y∈ns,y<=m)->Q (.int m) H1
  | _=>False) I h) fun us s1 ⟨vs,H1,I1,r1,q0⟩=>?_) (by rw [hs]; rfl) (by rw [hs]; rfl)
 obtain ⟨x,rfl,q,ns,rfl,hS,k⟩:∃ x,vs=[x]/\∃ (p:Addr) (ns:List Int),x=.ref p/\SqT X.K H1 p (ns.map V.int)/\∀ m:Int,(if ns=[] then m=d else m∈ns/\∀ y∈ns,y<=m)->Q (.int m) H1:=by
  match vs,q0 with
  | [x],q0=>exact ⟨x,rfl,q0⟩
 obtain ⟨u,rfl,ru⟩:=jj r1
 cases ru
 refine kws_cons (Kz (kws_nil ?_))
 have I2:=I1.tok (s1.toks + 1)
 obtain ⟨its,rv,pl,hz⟩:=I2.tuple hS
 have hp:s1.heap.IsTuple q its.toArray:=pl
 have hlt:q < s1.heap.objs.size:=pl.lt
 have hlen:=rv.length
 rw [Ah] at hlen
 have hval:∀ i v,its[i]?=some v->∃ t,v=DP (ns.getD i 0) t:=fun i v hv'=>by
  have hi:i < (ns.map V.int).length:=by rw [rv.length]; exact (Aq.mp hv').1
  obtain ⟨u,e1,r1⟩:=rv.get (i:=i) (x:=.int (ns.getD i 0)) (by
   rw [Ah] at hi
   rw [AO,BR,Ax hi]; rfl)
  rw [hv'] at e1
  cases e1
  exact r1
 refine aGN (EI hp ?_)
 refine ⟨_,_,_,_,_,_,_,rfl,ND (A:=X.A.in1) (I.ok.hd hc) s1.heap.objs.size q (AC hlt) its.toArray,⟨⟨_,Ag _ rfl,rfl,rfl⟩,hp.push _⟩,fun b hb=>?_,Nc (fun i=>ns.getD i 0) (fun i v hP=>hval i v (by simpa using hP)),fun v h' tk hP hk=>?_⟩
 ·show b < (s1.heap.push _).objs.size
  rw [Bo]
  rcases Aj.mp hb with rfl | hb
  ·exact DC _
  ·rcases Aj.mp hb with rfl | hb
   ·exact Cn hlt
   ·cases hb
 ·have kp:∀ b o,s1.heap.get? b=some o->h'.get? b=some o:=fun b o e=>hk b o (fun z=>absurd (Ap e) (by rw [Ae.mp z]; exact BC _)) (Ac _ e)
  by_cases h0:ns=[]
  ·have e0:its.toArray.size=0:=by rw [Ao,<- hlen,h0]; rfl
   rw [if_pos e0] at hP
   subst hP
   exact ⟨.int d,H1,I1.kept kp,⟨_,rfl⟩,k d (by rw [if_pos h0])⟩
  ·have hpos:0 < ns.length:=CV.mpr h0
   have e0:¬ its.toArray.size=0:=by rw [Ao]; lia
   rw [if_neg e0,Ao,<- hlen] at hP
   obtain ⟨b1,b2⟩:=aDD (fun i=>ns.getD i 0) (ns.length - 1)
   obtain ⟨t,rfl⟩:=hval (Gg (fun i k=>decide (ns.getD i 0 > ns.getD k 0)) (ns.length - 1)) v (by rw [<- hP,CY])
   have hget:∀ i,i < ns.length->ns[i]?=some (ns.getD i 0):=fun i hi=>by rw [BR,Ax hi]; rfl
   refine ⟨.int _,H1,I1.kept kp,⟨t,rfl⟩,k _ ?_⟩
   rw [if_neg h0]
   refine ⟨Au (hget _ (by lia)),fun y hy=>?_⟩
   obtain ⟨i,hi⟩:=List.mem_iff_getElem?.mp hy
   have hil:=(Aq.mp hi).1
   have:=b2 i (by lia)
   have ey:y=ns.getD i 0:=Ck (hi.symm.trans (hget i hil))
   rw [ey]
   exact this
end
theorem aHZ {lo:Int} {n:Nat} {D:Addr} {g:TG} {te:TE} {NX:St->Hp->Prop} {σ:St} {H:Hp} (Pv:Nat->St->Hp->Prop) (h0:Pv 0 σ H)
  (hs:∀ i σ H,i < n->Pv i σ H->g (.int (lo + i)) σ H fun σ2 H2=>te σ2 H2 fun y H5=>∃ xs,H5 D=some (.lst xs)/\xs.length < sizeLine/\Pv (i + 1) σ2 (upd H5 D (.lst (xs++[y])))) (hd:∀ σ H,Pv n σ H->NX σ H) :
  ∃ W:Nat->Nat->St->Hp->Prop,(∃ m,W 0 m σ H)/\∀ i m σ H,W i m σ H ->
   ((Itr lo n).stop i H/\NX σ H)\/((Itr lo n).go i H/\∃ N:St->Hp->Prop,(∀ σ' H',N σ' H'->∃ m',m' < m/\W (i + 1) m' σ' H')/\∀ x H',(Itr lo n).yld i H x H'->g x σ H' fun σ2 H2=>te σ2 H2 fun y H5=>∃ xs,H5 D=some (.lst xs)/\xs.length < sizeLine/\N σ2 (upd H5 D (.lst (xs++[y])))):=by
 refine ⟨fun i m σ H=>m=n - i/\i<=n/\Pv i σ H,⟨n,by simp,AL _,h0⟩,?_⟩
 rintro i m σ H ⟨rfl,hi,p⟩
 by_cases hlt:i < n
 ·refine .inr ⟨hlt,Pv (i + 1),fun σ' H' p'=>⟨n - (i + 1),by lia,rfl,hlt,p'⟩,fun x H' y=>?_⟩
  obtain ⟨e1,e2⟩:=y
  subst e1 e2
  exact hs i σ _ hlt p
 ·have e:i=n:=by lia
  subst e
  exact .inl ⟨Ak _,hd σ H p⟩
end L2
namespace Law
open PySem L2
noncomputable def upto (a b:Int):List Int:=(BQ (b + 1 - a).toNat).map fun (i:Nat)=>a + (i:Int)
noncomputable def loR (r:List Int):Int:=r.foldl max 1
noncomputable def zL (g:Int):Nat->List (List Int)
 | 0=>[[]]
 | k + 1=>(zL g k).flatMap fun r=>(upto (loR r) g).map fun n=>r++[n]
noncomputable def allR (g:Int):Nat->List (List Int)
 | 0=>[[]]
 | k + 1=>(allR g k).flatMap fun r=>(upto 1 g).map fun n=>r++[n]
noncomputable def ndB:List Int->Bool
 | a :: b :: r=>decide (a<=b) && ndB (b :: r)
 | _=>true
theorem aDE:∀ r:List Int,ndB r=true↔r.Pairwise (·<=·)
 | []=>by simp [ndB]
 | [a]=>by simp [ndB]
 | a :: b :: r=>by
  rw [ndB,AD,decide_eq_true_eq,aDE (b :: r)]
  constructor
  ·rintro ⟨h1,h2⟩
   refine AG.mpr ⟨fun x hx=>?_,h2⟩
   rcases Aj.mp hx with rfl | hx
   ·exact h1
   ·exact JA h1 ((AG.mp h2).1 x hx)
  ·intro h
   have:=AG.mp h
   exact ⟨this.1 b (by simp),this.2⟩
noncomputable def okR:Bool:=(BQ 10).all fun g=>(BQ 4).all fun k=>decide ((allR (g:Int) k).filter ndB=zL (g:Int) k)
theorem aJG:okR=true:=by decide +kernel
theorem aGO {g k:Nat} (hg:g < 10) (hk:k < 4):(allR (g:Int) k).filter ndB=zL (g:Int) k:=by
 have h:=AK.mp (AK.mp aJG g (Cm.mpr hg)) k (Cm.mpr hk)
 exact of_decide_eq_true h
noncomputable def szR:Bool:=(BQ 10).all fun g=>(BQ 4).all fun k=>decide ((allR (g:Int) k).length<=729) && (allR (g:Int) k).all fun r=>decide (r.length=k) && r.all fun n=>decide (1<=n) && decide (n<=9)
theorem aJH:szR=true:=by decide +kernel
theorem aBd {g k:Nat} (hg:g < 10) (hk:k < 4):(allR (g:Int) k).length<=729/\∀ r∈allR (g:Int) k,r.length=k/\∀ n∈r,1<=n/\n<=9:=by
 have h:=AK.mp (AK.mp aJH g (Cm.mpr hg)) k (Cm.mpr hk)
 rw [AD,decide_eq_true_eq] at h
 refine ⟨h.1,fun r hr=>?_⟩
 have h2:=AK.mp h.2 r hr
 rw [AD,decide_eq_true_eq] at h2
 refine ⟨h2.1,fun n hn=>?_⟩
 have h3:=AK.mp h2.2 n hn
 rw [AD,decide_eq_true_eq,decide_eq_true_eq] at h3
 exact h3
theorem ya {g k:Nat} (hg:g < 10) (hk:k < 4):(zL (g:Int) k).length<=729/\∀ r∈zL (g:Int) k,r.length=k/\∀ n∈r,1<=n/\n<=9:=by
 obtain ⟨h1,h2⟩:=aBd hg hk
 rw [<- aGO hg hk]
 exact ⟨Ay (Gr _ _) h1,fun r hr=>h2 r (Bi.mp hr).1⟩
theorem aBe:∀ (r:List Int) (a:Int),a<=r.foldl max a/\(∀ x∈r,x<=r.foldl max a)/\(r.foldl max a=a\/r.foldl max a∈r)
 | [],a=>⟨Mw _,fun x h=>(nomatch h),.inl rfl⟩
 | b :: r,a=>by
  obtain ⟨h1,h2,h3⟩:=aBe r (max a b)
  rw [Dw]
  refine ⟨JA (Int.le_max_left a b) h1,fun x hx=>?_,?_⟩
  ·rcases Aj.mp hx with rfl | hx
   ·exact JA (Int.le_max_right a x) h1
   ·exact h2 x hx
  ·rcases h3 with h3 | h3
   ·rw [h3]
    rcases Int.le_total a b with h | h
    ·rw [Int.max_eq_right h]; exact .inr (by simp)
    ·rw [Int.max_eq_left h]; exact .inl rfl
   ·exact .inr (Al _ h3)
theorem aKk {r:List Int} {m:Int} (h1:∀ n∈r,1<=n) (h:if r=[] then m=1 else m∈r/\∀ y∈r,y<=m):m=loR r:=by
 unfold loR
 by_cases e:r=[]
 ·rw [if_pos e] at h; rw [h,e]; rfl
 ·rw [if_neg e] at h
  obtain ⟨a1,a2,a3⟩:=aBe r 1
  have b1:=a2 m h.1
  rcases a3 with a3 | a3
  ·have:=h1 m h.1; lia
  ·have:=h.2 _ a3; lia
end Law
namespace L2
open PySem PySem.Spec PyProof.Rows
section
variable {prog:At} {w:AV} {A:AY} {E:Value->Ad->Prop} {s:Ad} {it d:Addr} {i ep:Nat} {o:Obj} {es:Array Cs} {e:Cs}
theorem aCR {Q:Value->Ad->Prop} (hd:(d == BM)=false) (ho:s.heap.get? d=some o) (hc:o.cls=.type "dict") (hdat:o.data=.dict es ep)
  (h:Q (.ref s.heap.objs.size) { s with heap:=s.heap.push { cls:=.type "dict_keyiterator",data:=.fields #[.ref d,.int 0 0,.int es.size 0,.int ep 0] } }):Ar (AB prog w) A (FH (.ref d)) Q E s:=by
 have hT:s.TypeIs (.ref d) "dict":=⟨o,ho,hc⟩
 refine DN hT IU (AN IU hT F.entry_dict_iter ?_ (F.args_dict_iter_1 _))
 unfold Builtin.«dict.__iter__» Builtin.Dict.dictSlotNone JC
 refine Aa (Aa (Gq hT ?_))
 refine (show Ar _ _ (pure (Value.ref d)) _ _ s from Ab ?_)
 refine Aa (Ab ?_)
 rw [if_neg (show ¬ (d == BM)=true by rw [hd]; exact Av)]
 refine Aa (Ab (Aa (Cp ho hdat (Aa (DT ho hdat ?_)))))
 refine Aa (Bd (Ab ⟨_,rfl,"dict_keyiterator",_,⟨_,Ag _ rfl,rfl⟩,Db.lookup,?_⟩))
 simpa [Dr] using h
noncomputable abbrev jD (h:Heap) (it d:Addr) (i n ep:Nat):Prop:=h.get? it=some { cls:=.type "dict_keyiterator",dict:=none,data:=.fields #[.ref d,.int i 0,.int n 0,.int ep 0],slots:=#[] }
theorem aCS {Q:Option Value->Ad->Prop} (hit:jD s.heap it d i es.size ep) (ho:s.heap.get? d=some o) (hd:o.data=.dict es ep) (hx:es[i]?=some e)
  (h:∀ h',jD h' it d (i + 1) es.size ep->Cc it s.heap h'->Q (some e.key) { s with heap:=h' }):Ar (AB prog w) A (Dq (.ref it)) Q E s:=by
 have hT:s.TypeIs (.ref it) "dict_keyiterator":=⟨_,hit,rfl⟩
 unfold Dq
 refine Aa (CT (Bl (name:=CW "__next__") hT Db (AN Db hT Gz ?_ (Gs _))))
 wp_walk using DE hT,DH hit rfl,Cp ho hd,DT ho hd,EW hT
 rw [if_neg (show ¬ ((i:Int) < 0) by lia),BZ,hx]
 have hown:(if Da "dict_keyiterator"=true then 2 else 0)=0:=by decide
 obtain ⟨hp,g,dr,tk,os⟩:=s
 refine Aa (Aa (DE hT (Ab (Aa (EW hT (Aa ?_))))))
 rw [hown]
 refine Ct hit (by show 1 < 4; decide) fun h1 e1 s1=>Aa (Bw ?_)
 replace e1:jD h1 it d (i + 1) es.size ep:=by
  unfold jD
  rw [show ((i + 1:Nat):Int)=(i:Int) + 1 by lia]
  exact e1
 have t1:IH ⟨h1,g,dr,tk,os⟩ (.ref it) "dict_keyiterator":=⟨_,e1,rfl⟩
 refine Aa (EW t1 ?_)
 exact (show Ar _ _ (pure e.key) _ _ ⟨h1,g,dr,tk,os⟩ from Ab (Ab ⟨_,rfl,Ab (h h1 e1 s1)⟩))
theorem aCT {Q:Option Value->Ad->Prop} (hh:A.handled=none) (hit:jD s.heap it d i es.size ep) (ho:s.heap.get? d=some o) (hd:o.data=.dict es ep) (hx:es[i]?=none)
  (h:∀ h',Iy it s.heap h'->Q none { s with heap:=h' }):Ar (AB prog w) A (Dq (.ref it)) Q E s:=by
 have hT:s.TypeIs (.ref it) "dict_keyiterator":=⟨_,hit,rfl⟩
 unfold Dq
 refine Aa (CT (Bl (name:=CW "__next__") hT Db (AN Db hT Gz ?_ (Gs _))))
 wp_walk using DE hT,DH hit rfl,Cp ho hd,DT ho hd,EW hT
 rw [if_neg (show ¬ ((i:Int) < 0) by lia),BZ,hx]
 have hown:(if Da "dict_keyiterator"=true then 2 else 0)=0:=by decide
 obtain ⟨hp,g,dr,tk,os⟩:=s
 refine Aa (Aa (DE hT (Ab (Aa ?_))))
 rw [hown]
 refine Ct hit (by show 0 < 4; decide) fun h1 e1 s1=>Aa ?_
 simp only [Mk,KO,Mc]
 refine Aa (Bd (Aa (m:=Ef _ _) (Ey (a:=BY) rfl (Bd (Aa (GG ?_)) (by size_fits)))) (by size_fits))
 rw [show A.in1.handled=none from hh]
 refine Aa (Ab (Iz ?_)); refine Aa (DW (T:="StopIteration") (b:=true) ⟨_,Ag _ rfl,rfl⟩ Gh (Ab (h _ ?_)))
 exact (s1.extBut.push _).push _
end
noncomputable def Itkb (P:At) (w:AV) (d:Addr) (o:Obj) (xs:List (List Bool×Addr×Value)) (kvs:List (List Bool×V)):It :=
 ⟨fun i H=>H d=some (.frz o (DbO P w d xs))/\KTB H kvs xs/\i < kvs.length,fun i H v H'=>H'=H/\∃ k x q,kvs[i]?=some (k,x)/\v=.ref q/\Kb H q k,fun i H=>H d=some (.frz o (DbO P w d xs))/\KTB H kvs xs/\kvs.length<=i⟩
theorem aEh {P:At} {w:AV} {K:Af} {tg:Expr} {d it:Addr} {o:Obj} {xs:List (List Bool×Addr×Value)} {kvs:List (List Bool×V)} {de:Array Cs} {ep:Nat} (hd:o.data=.dict de ep) :
  Turn P w K tg (Itkb P w d o xs kvs) [it] it (fun i h=>jD h it d i de.size ep) where
 mem:=by simp
 obj:=fun i h st b hb=>by
  rw [Ae.mp hb]
  exact ⟨_,st,fun v e=>by cases e⟩
 keep:=fun i h h' st kp=>kp it (by simp) _ st
 item:=by
  intro X hP hw hK hc k pins s σ H E I hf st hg
  subst hP hw hK
  obtain ⟨hfz,hkt,hlt⟩:=hg
  obtain ⟨hgo,⟨o2,es2,ep2,e2,c2,d2,l2⟩,_⟩:=I.hok d _ hfz
  rw [hgo] at e2; cases e2
  rw [hd] at d2; cases d2
  obtain ⟨⟨ky,x⟩,hx⟩:∃ p,kvs[k]?=some p:=⟨kvs[k],Ax hlt⟩
  obtain ⟨q,u,hu,hq,ru⟩:=hkt.get hx
  have he:de[k]?=some (Cu (BI (zm X.prog X.w)) (ky,q,u)):=by
   rw [<- BA,l2,AO,hu]; rfl
  refine aCS st hgo hd he fun g hit' sb=>⟨_,rfl,?_⟩
  have fi:=hf it (by simp)
  refine aCk hit' rfl rfl (by decide) ?_
  refine ⟨.ref q,H,I.turned (t':=s.toks) (fun b o nb e=>by rw [sb.2 b nb]; exact e) fi.1 fi.2.1 fi.2.2.2.1 fi.2.2.2.2.1 fi.2.2.2.2.2,rfl,⟨rfl,ky,x,q,hx,rfl,hq⟩,hit',fun b hb=>?_⟩
  rw [Ae.mp hb]; exact fi.1
 done:=by
  intro X hP hw hK hc k pins s σ H E I hf st hg
  subst hP hw hK
  obtain ⟨hfz,hkt,hend⟩:=hg
  obtain ⟨hgo,⟨o2,es2,ep2,e2,c2,d2,l2⟩,_⟩:=I.hok d _ hfz
  rw [hgo] at e2; cases e2
  rw [hd] at d2; cases d2
  have he:de[k]?=none:=by
   rw [<- BA,l2,AO,Cg (by rw [<- Ds hkt]; exact hend)]; rfl
  refine aCT (I.ok.hd hc) st hgo hd he fun g eb=>⟨rfl,?_⟩
  have fi:=hf it (by simp)
  exact I.turned (t':=s.toks) (fun b o nb e=>eb b o nb e) fi.1 fi.2.1 fi.2.2.2.1 fi.2.2.2.2.1 fi.2.2.2.2.2
 self:=fun A i s Q E st h=>yz (d:=d) (i:=i) (n:=de.size) (ep:=ep) ⟨_,st,rfl,rfl⟩ h
section
variable {X:Cx}
noncomputable def aKl (P:At) (w:AV) (to:TE):TI:=fun σ H R=>to σ H fun x H1=>∃ (d:Addr) (xs:List (List Bool×Addr×Value)) (kvs:List (List Bool×V)),x=.ref d/\(d == BM)=false /\
 ((H1 d=some (DbO P w d xs)/\∀ o,R (Itkb P w d o xs kvs) (upd H1 d (.frz o (DbO P w d xs))))\/∃ o,H1 d=some (.frz o (DbO P w d xs))/\R (Itkb P w d o xs kvs) H1)
theorem aHa {tg e:Expr} {te:TE} (he:PE X e te):PI X tg e (aKl X.prog X.w te):=by
 intro pins s σ H R I h
 refine thn (he pins s σ H _ I h) fun v s1 ⟨y,H1,I1,r1,d,xs,kvs,ey,hsys,q⟩=>?_
 subst ey
 cases r1
 obtain ⟨o,es1,ep,e1,ex,e2,e3⟩:∃ o es ep,s1.heap.get? d=some o/\o.ExactDict/\o.data=.dict es ep/\es.toList=xs.map (Cu (BI (zm X.prog X.w))):=by
  rcases q with ⟨q,_⟩ | ⟨o,q,_⟩
  ·exact (I1.hok d _ q).1
  ·exact (I1.hok d _ q).2.1
 obtain ⟨H2,I2,fz,r⟩:∃ H2,Inv X pins σ H2 s1/\H2 d=some (.frz o (DbO X.prog X.w d xs))/\R (Itkb X.prog X.w d o xs kvs) H2:=by
  rcases q with ⟨q,r⟩ | ⟨o',q,r⟩
  ·exact ⟨_,I1.frozenE q e1,zC,r o⟩
  ·have:o'=o:=by
    have:=(I1.hok d _ q).1
    rw [e1] at this; cases this; rfl
   subst this
   exact ⟨H1,I1,q,r⟩
 refine aCR hsys e1 ex.1 e2 ?_
 refine ⟨_,_,_,_,H2,rfl,I2.kept (t':=s1.toks) fun b o e=>Ac _ e,aEh (o:=o) (xs:=xs) (kvs:=kvs) e2,Ag _ rfl,fun b hb=>?_,r⟩
 have e:b=s1.heap.objs.size:=by simpa using hb
 subst e
 exact I2.fpOk (Ak _) (I2.hok.fresh (Ak _))
theorem aGP {P:At} {w:AV} {d:Addr} {o:Obj} {xs:List (List Bool×Addr×Value)} {kvs:List (List Bool×V)} {g:TG} {tb:TS} {D:Ends} {σ:St} {H:Hp} (Pv:Nat->St->Hp->Prop) (h0:Pv 0 σ H) (hz:∀ i σ H,Pv i σ H->H d=some (.frz o (DbO P w d xs))/\KTB H kvs xs)
  (hs:∀ i k x q σ H,kvs[i]?=some (k,x)->Kb H q k->Pv i σ H->g (.ref q) σ H fun σ2 H2=>tb { D with nx:=Pv (i + 1),ct:=Pv (i + 1),bk:=D.nx } σ2 H2) (hd:∀ σ H,Pv kvs.length σ H->D.nx σ H) :
  ∃ W:Nat->Nat->St->Hp->Prop,(∃ m,W 0 m σ H)/\∀ i m σ H,W i m σ H ->
   ((Itkb P w d o xs kvs).stop i H/\D.nx σ H)\/((Itkb P w d o xs kvs).go i H/\∃ N:St->Hp->Prop,(∀ σ' H',N σ' H'->∃ m',m' < m/\W (i + 1) m' σ' H')/\∀ x H',(Itkb P w d o xs kvs).yld i H x H'->g x σ H' fun σ2 H2=>tb { D with nx:=N,ct:=N,bk:=D.nx } σ2 H2):=by
 refine ⟨fun i m σ H=>m=kvs.length - i/\i<=kvs.length/\Pv i σ H,⟨kvs.length,by simp,AL _,h0⟩,?_⟩
 rintro i m σ H ⟨rfl,hi,p⟩
 obtain ⟨q1,q2⟩:=hz i σ H p
 by_cases hlt:i < kvs.length
 ·refine .inr ⟨⟨q1,q2,hlt⟩,Pv (i + 1),fun σ' H' p'=>⟨kvs.length - (i + 1),by lia,rfl,hlt,p'⟩,fun v H' y=>?_⟩
  obtain ⟨rfl,k,x,q,hx,rfl,hq⟩:=y
  exact hs i k x q σ _ hx hq p
 ·have e:i=kvs.length:=by lia
  subst e
  exact .inl ⟨⟨q1,q2,Ak _⟩,hd σ H p⟩
end
noncomputable def TbX (P:At) (w:AV) (H:Hp) (a:Addr) (kvs:List (List Bool×V)):Prop :=
 ∃ xs,Rd H a (DbO P w a xs)/\kvs.length<=sizeLine/\(a == BM)=false/\KTB H kvs xs/\(xs.map (·.1)).Nodup
section
variable {prog:At} {w:AV} {K:Type} [DecidableEq K] {knd:HeapKind prog w K} {A:AY} {E:Value->Ad->Prop} {s:Ad}
end
section
variable {X:Cx} {pins:List (Addr×Obj)} {σ:St} {H:Hp} {s:Ad} {a b:Addr} {kvs:List (List Bool×V)} {k:List Bool} {A:AY} {E:Value->Ad->Prop}
theorem aII (I:Inv X pins σ H s) (t:TbX X.prog X.w H a kvs):(a == BM)=false/\kvs.length<=sizeLine/\∃ xs,KTB H kvs xs/\s.heap.DictOfH (BI (zm X.prog X.w)) a xs:=by
 obtain ⟨xs,h1,h2,h3,h4,h5⟩:=t
 obtain ⟨⟨o,es,ep,g1,g2,g3,g4⟩,_⟩:=(show ObjOk X.prog X.w H s.heap a (DbO X.prog X.w a xs) from h1.ok I.hok)
 refine ⟨h3,h2,xs,h4,o,es,ep,g1,g2,g3,g4,fun x hx=>?_,h5⟩
 have all:∀ {l:List (List Bool×V)} {m:List (List Bool×Addr×Value)},KTB H l m->∀ x∈m,(BI (zm X.prog X.w)).is s.heap x.1 x.2.1:=by
  intro l m q
  induction q with
  | nil=>intro x hx; exact nomatch hx
  | @cons p q ps qs hq t ih =>
   intro x hx
   rcases Aj.mp hx with e | hx
   ·subst e
    exact aCI I.hok (by rw [<- hq.1]; exact hq.2.1.rd)
   ·exact ih x hx
 exact all h4 x hx
theorem aEi {v:V} {Q:Value->Ad->Prop} (hu:A.units + 1 < cLine) (I:Inv X pins σ H s) (t:TbX X.prog X.w H a kvs) (eb:Rd H b (.tup (k.map V.bl))) (l:valV kvs k=some v) (h:∀ w' s',Inv X pins σ H s'->RelV v w'->Q w' s') :
  Ar (AB X.prog X.w) A (Jj (.ref a) (.ref b)) Q E s:=by
 obtain ⟨_,_,xs,rel,dd⟩:=aII I t
 obtain ⟨w',hw,rw'⟩:=RelO.some_of (v:=v) (o:=(IJ xs k).map (·.2)) (by rw [<- l]; exact rel.val k)
 obtain ⟨p,hp,hp2⟩:=FY.mp hw
 refine Ht (EJ hu) (aCI I.hok eb) dd hp ?_
 rw [hp2]
 exact h w' _ (I.tok _) rw'
theorem aDF {α β:Type} {R:α->β->Prop} {xs:List α} {ys:List β} (h:AH R xs ys) {i:Nat} {y:β} (e:ys[i]?=some y):∃ x,xs[i]?=some x/\R x y:=by
 induction h generalizing i with
 | nil=>simp at e
 | cons h t ih =>
  cases i with
  | zero=>simp at e; subst e; exact ⟨_,rfl,h⟩
  | succ i=>simp at e; obtain ⟨x,h1,h2⟩:=ih e; exact ⟨x,by simpa using h1,h2⟩
theorem jX {α β:Type} {R:α->β->Prop} {xs:List α} {ys:List β} (h:AH R xs ys) {i:Nat} {x:α} (e:xs[i]?=some x):∃ y,ys[i]?=some y/\R x y:=by
 induction h generalizing i with
 | nil=>simp at e
 | cons h t ih =>
  cases i with
  | zero=>simp at e; subst e; exact ⟨_,rfl,h⟩
  | succ i=>simp at e; obtain ⟨x,h1,h2⟩:=ih e; exact ⟨x,by simpa using h1,h2⟩
end
theorem TbX.same {P:At} {w:AV} {H H':Hp} {a:Addr} {kvs:List (List Bool×V)} (s:Same H H') (t:TbX P w H a kvs):TbX P w H' a kvs:=by
 obtain ⟨xs,h1,h2,h3,h4,h5⟩:=t
 refine ⟨xs,?_,h2,h3,h4.keeps fun b o ys e=>s _ _ e,h5⟩
 rcases h1 with h1 | ⟨o,h1⟩
 ·exact .inl (s _ _ h1)
 ·exact .inr ⟨o,s _ _ h1⟩
section
variable {X:Cx} {o i:Expr} {td ty:TE} {pos:Pos}
noncomputable def aKm (P:At) (w:AV) (td ty:TE):TE:=fun σ H Q=>td σ H fun x H1=>ty σ H1 fun y H2=>∃ a b kvs k v,x=.ref a/\y=.ref b/\TbX P w H2 a kvs/\Rd H2 b (.tup (k.map V.bl))/\valV kvs k=some v/\Q v H2
theorem aBf (hu:X.A.units + 1 < cLine) (ho:PE X o td) (hi:PE X i ty) (hs:NoSl i):PE X (.Subscript o i pos) (aKm X.prog X.w td ty):=by
 intro pins s σ H Q I h
 refine aD6 Fm.lookup hs (thn (ho pins s σ H _ I h) fun u s1 ⟨x,H1,I1,rx,q1⟩=>thn (hi pins s1 σ H1 _ I1 q1) fun iv s2 ⟨y,H2,I2,ry,a,b,kvs,k,v,ex,ey,t,eb,l,q2⟩=>?_)
 subst ex ey
 obtain rfl:u=Value.ref a:=rx
 obtain rfl:iv=Value.ref b:=ry
 obtain ⟨_,_,xs,_,dd⟩:=aII I2 t
 exact ⟨dd.typeIs,aEi hu I2 t eb l fun w' s3 I3 rw'=>⟨v,H2,I3,rw',q2⟩⟩
end
section
variable {prog:At} {w:AV} {A:AY} {E:Value->Ad->Prop} {s:Ad}
end
section
variable {prog:At} {w:AV} {A:AY} {R:JV->Ad->Prop} {I:Addr} {fp wr:List Addr} {G:Array GE->Array GE->Prop} {n:Nat} {P:Nat->Value->Prop} {St:Nat->Ad->Prop}
end
section
variable {X:Cx} {pins:List (Addr×Obj)} {σ:St} {H:Hp} {s:Ad}
theorem aHb {H H':Hp} {a:Addr} {u:HO} (s:Same H H') (h:Rd H a u):Rd H' a u:=h.elim (fun h=>.inl (s _ _ h)) fun ⟨o,h⟩=>.inr ⟨o,s _ _ h⟩
end
section
variable {prog:At} {w:AV} {K:Type} [DecidableEq K] {knd:HeapKind prog w K} {A:AY} {E:Value->Ad->Prop} {s:Ad}
end
section
variable {X:Cx} {pins:List (Addr×Obj)} {σ:St} {H:Hp} {s:Ad} {a:Addr} {kvs:List (List Bool×V)}
end
section
variable {prog:At} {w:AV}
end
section
variable {X:Cx} {o:Expr} {to:TE} {apos cpos:Pos}
end
section
variable {X:Cx} {p pos:Pos}
end
noncomputable abbrev KTF (H:Hp):List (List Int×V)->List (List Int×Addr×Value)->Prop:=AH fun p q=>p.1=q.1/\Rd H q.2.1 (.tup (p.1.map V.int))/\RelV p.2 q.2.2
theorem KTF.val {H:Hp} {kvs:List (List Int×V)} {xs:List (List Int×Addr×Value)} (r:KTF H kvs xs) (k:List Int):RelO (valV kvs k) ((IJ xs k).map (·.2)):=by
 induction r with
 | nil=>exact DJ
 | @cons p q ps qs h t ih =>
  obtain ⟨h1,_,h2⟩:=h
  by_cases e:p.1=k
  ·have b:IJ (q :: qs) k=some q.2:=by simp [IJ,EV,h1.symm.trans e]
   rw [jV e,b]; exact h2
  ·have b:IJ (q :: qs) k=IJ qs k:=by
    have e':¬ q.1=k:=fun z=>e (h1.trans z)
    simp [IJ,EV,e']
   rw [jW e,b]; exact ih
theorem KTF.put {H:Hp} {kvs:List (List Int×V)} {xs:List (List Int×Addr×Value)} (r:KTF H kvs xs) (k:List Int) {b:Addr} {y:V} {u:Value} (hb:Rd H b (.tup (k.map V.int))) (ry:RelV y u):KTF H (putK kvs k y) (Fw xs k b u):=by
 have e:(kvs.any fun kv=>decide (kv.1=k))=(IJ xs k).isSome:=by
  rw [aBb,(r.val k).isSome_eq,Lw]
 unfold putK Fw
 rw [e]
 by_cases q:(IJ xs k).isSome=true
 ·rw [if_pos q,if_pos q]
  clear e q
  induction r with
  | nil=>exact .nil
  | @cons p q ps qs h t ih =>
   rw [AA,AA]
   refine .cons ?_ ih
   obtain ⟨h1,h2,h3⟩:=h
   unfold Mv
   by_cases e:p.1=k
   ·rw [if_pos e,if_pos (h1.symm.trans e)]; exact ⟨h1,h2,ry⟩
   ·rw [if_neg e,if_neg (fun z=>e (h1.trans z))]; exact ⟨h1,h2,h3⟩
 ·rw [if_neg q,if_neg q]; exact NC r ⟨rfl,hb,ry⟩
theorem KTF.keeps {H H':Hp} {kvs:List (List Int×V)} {xs:List (List Int×Addr×Value)} (r:KTF H kvs xs) (ht:∀ b ys,Rd H b (.tup ys)->Rd H' b (.tup ys)):KTF H' kvs xs :=
 Paired.mapP r fun _ _ z=>⟨z.1,ht _ _ z.2.1,z.2.2⟩
theorem aE1 {P:At} {w:AV}:∀ {ks:List Int} {us:List Value},Vals (ks.map V.int) us->ItemsAre (Ch P w) ks us
 | [],_,r=>by rw [BX] at r; cases r; exact .nil
 | k :: ks,_,r=>by
  rw [AA] at r
  cases r with
  | cons h t =>
   obtain ⟨t',rfl⟩:=h
   exact .cons (Ij _ _ _ _) (aE1 t)
section
variable {P:At} {w:AV} {H:Hp} {h:Heap} {a:Addr}
theorem aE2 {ks:List Int} (ok:HOk P w H h) (e:Rd H a (.tup (ks.map V.int))):(BI (Ch P w)).is h ks a:=by
 obtain ⟨_,its,r,o,h1,h2,n,h3⟩:=(show ObjOk P w H h a (.tup (ks.map V.int)) from e.ok ok)
 exact ⟨o,its.toArray,n,h1,h2,h3,by simpa using aE1 r⟩
end
noncomputable def DfO (P:At) (w:AV) (a:Addr) (xs:List (List Int×Addr×Value)):HO :=
 .ext fun h=>∃ o es ep,h.get? a=some o/\o.ExactDict/\o.data=.dict es ep/\es.toList=xs.map (Cu (BI (Ch P w)))
noncomputable def Tf (P:At) (w:AV) (H:Hp) (a:Addr) (kvs:List (List Int×V)):Prop :=
 ∃ xs,H a=some (DfO P w a xs)/\kvs.length<=sizeLine/\(a == BM)=false/\KTF H kvs xs/\(xs.map (·.1)).Nodup
section
variable {P:At} {w:AV} {H H':Hp} {h:Heap} {a:Addr} {kvs:List (List Int×V)}
theorem aGQ {xs:List (List Int×Addr×Value)} (e:∃ o es ep,h.get? a=some o/\o.ExactDict/\o.data=.dict es ep/\es.toList=xs.map (Cu (BI (Ch P w)))):ObjOk P w H h a (DfO P w a xs):=by
 obtain ⟨o,es,ep,h1,h2,h3,h4⟩:=id e
 exact ⟨e,⟨o,h1⟩,fun g1 g2 ⟨o,es,ep,h1,h2,h3,h4⟩ k=>⟨o,es,ep,k o h1,h2,h3,h4⟩⟩
theorem Tf.same (s:Same H H') (t:Tf P w H a kvs):Tf P w H' a kvs:=by
 obtain ⟨xs,h1,h2,h3,h4,h5⟩:=t
 exact ⟨xs,s _ _ h1,h2,h3,h4.keeps fun b ys e=>aHb s e,h5⟩
theorem Tf.new {p:Addr} (hp:(p == BM)=false):Tf P w (upd H p (DfO P w p [])) p [] :=
 ⟨[],zC,AL _,hp,.nil,Dc⟩
end
section
variable {X:Cx} {pins:List (Addr×Obj)} {σ:St} {H:Hp} {s:Ad} {a b:Addr} {kvs:List (List Int×V)} {k:List Int} {A:AY} {E:Value->Ad->Prop}
theorem aCU (I:Inv X pins σ H s) (t:Tf X.prog X.w H a kvs):(a == BM)=false/\kvs.length<=sizeLine/\∃ xs,KTF H kvs xs/\s.heap.DictOfH (BI (Ch X.prog X.w)) a xs:=by
 obtain ⟨xs,h1,h2,h3,h4,h5⟩:=t
 obtain ⟨⟨o,es,ep,g1,g2,g3,g4⟩,_⟩:=(show ObjOk X.prog X.w H s.heap a (DfO X.prog X.w a xs) from I.hok a _ h1)
 refine ⟨h3,h2,xs,h4,o,es,ep,g1,g2,g3,g4,fun x hx=>?_,h5⟩
 have all:∀ {l:List (List Int×V)} {m:List (List Int×Addr×Value)},KTF H l m->∀ x∈m,(BI (Ch X.prog X.w)).is s.heap x.1 x.2.1:=by
  intro l m q
  induction q with
  | nil=>intro x hx; exact nomatch hx
  | @cons p q ps qs hq t ih =>
   intro x hx
   rcases Aj.mp hx with e | hx
   ·subst e
    exact aE2 I.hok (by rw [<- hq.1]; exact hq.2.1)
   ·exact ih x hx
 exact all h4 x hx
theorem aGR {v:V} {Q:Value->Ad->Prop} (hu:A.units + 1 < cLine) (I:Inv X pins σ H s) (t:Tf X.prog X.w H a kvs) (eb:Rd H b (.tup (k.map V.int))) (l:valV kvs k=some v) (h:∀ w' s',Inv X pins σ H s'->RelV v w'->Q w' s') :
  Ar (AB X.prog X.w) A (Jj (.ref a) (.ref b)) Q E s:=by
 obtain ⟨_,_,xs,rel,dd⟩:=aCU I t
 obtain ⟨w',hw,rw'⟩:=RelO.some_of (v:=v) (o:=(IJ xs k).map (·.2)) (by rw [<- l]; exact rel.val k)
 obtain ⟨p,hp,hp2⟩:=FY.mp hw
 refine Ht (EJ hu) (aE2 I.hok eb) dd hp ?_
 rw [hp2]
 exact h w' _ (I.tok _) rw'
theorem aGS {v:V} {r:Value} {Q:Unit->Ad->Prop} (hu:A.units + 1 < cLine) (I:Inv X pins σ H s) (t:Tf X.prog X.w H a kvs) (eb:Rd H b (.tup (k.map V.int))) (hl:kvs.length < sizeLine) (rv:RelV v r)
  (h:∀ s' H',Inv X pins σ H' s'->(∀ c,c≠a->H' c=H c)->Tf X.prog X.w H' a (putK kvs k v)->Q () s'):Ar (AB X.prog X.w) A (setItem (.ref a) (.ref b) r) Q E s:=by
 obtain ⟨hsys,hz0,xs,rel,dd⟩:=aCU I t
 have hz:xs.length<=sizeLine:=by rw [<- Ds rel]; exact hz0
 have hl2:(putK kvs k v).length<=sizeLine:=by have:=qQ kvs k v; lia
 refine KZ (hsz:=hz) (EJ hu) (aE2 I.hok eb) dd fun h' dd' hs=>?_
 obtain ⟨q,es,ep,hq,h2,h3,h4,_,h5⟩:=dd'
 obtain ⟨xs0,e0,_⟩:=t
 have I2:Inv X pins σ (upd H a (DfO X.prog X.w a (Fw xs k b r))) { s with heap:=h',toks:=s.toks + (BI (Ch X.prog X.w)).draws k } :=
  I.write (x:=a) (e:=a) (by rw [e0]; exact DJ) (.inl rfl) (fun c q hb z=>(hs.2 c hb).trans z) ⟨q,hq⟩ (aGQ ⟨q,es,ep,hq,h2,h3,h4⟩)
 refine h _ _ I2 (fun c hc=>zH hc) ⟨_,zC,hl2,hsys,(rel.put k eb rv).keeps fun c ys ec=>?_,h5⟩
 rcases ec with ec | ⟨oc,ec⟩
 ·left; rw [zH (fun z=>by rw [z,e0] at ec; cases ec)]; exact ec
 ·right; exact ⟨oc,by rw [zH (fun z=>by rw [z,e0] at ec; cases ec)]; exact ec⟩
end
section
variable {X:Cx} {o i value:Expr} {td ty tv tx:TE} {pos pos':Pos}
theorem aAE:PE X (.Dict [] [] pos) (fun _ H Q=>∀ p,H p=none->(p == BM)=false->Q (.ref p) (upd H p (DfO X.prog X.w p []))):=fun pins s σ H Q I h =>
 LW ⟨.ref s.heap.objs.size,_,I.laid (a:=s.heap.objs.size) (o:=DfO X.prog X.w s.heap.objs.size []) (t':=s.toks) (fun _ _ q=>Ac _ q) (Ak _) (aGQ ⟨_,#[],0,Ag _ rfl,⟨rfl,rfl,rfl⟩,rfl,rfl⟩),rfl,
  h _ (I.hok.fresh (Ak _)) (beq_eq_false_iff_ne.mpr (BT (AC I.big)))⟩
noncomputable def aKn (P:At) (w:AV) (td ty:TE):TE:=fun σ H Q=>td σ H fun x H1=>ty σ H1 fun y H2=>∃ a b kvs k v,x=.ref a/\y=.ref b/\Tf P w H2 a kvs/\Rd H2 b (.tup (k.map V.int))/\valV kvs k=some v/\Q v H2
theorem aHc (hu:X.A.units + 1 < cLine) (ho:PE X o td) (hi:PE X i ty) (hs:NoSl i):PE X (.Subscript o i pos) (aKn X.prog X.w td ty):=by
 intro pins s σ H Q I h
 refine aD6 Fm.lookup hs (thn (ho pins s σ H _ I h) fun u s1 ⟨x,H1,I1,rx,q1⟩=>thn (hi pins s1 σ H1 _ I1 q1) fun iv s2 ⟨y,H2,I2,ry,a,b,kvs,k,v,ex,ey,t,eb,l,q2⟩=>?_)
 subst ex ey
 obtain rfl:u=Value.ref a:=rx
 obtain rfl:iv=Value.ref b:=ry
 obtain ⟨_,_,xs,_,dd⟩:=aCU I2 t
 exact ⟨dd.typeIs,aGR hu I2 t eb l fun w' s3 I3 rw'=>⟨v,H2,I3,rw',q2⟩⟩
noncomputable def aKo (P:At) (w:AV) (td ty tv:TE):TS:=fun D σ H=>tv σ H fun v H1=>td σ H1 fun x H2=>ty σ H2 fun y H3=>∃ a b kvs k,x=.ref a/\y=.ref b/\Tf P w H3 a kvs/\Rd H3 b (.tup (k.map V.int))/\kvs.length < sizeLine /\
 ∀ H4:Hp,(∀ c,c≠a->H4 c=H3 c)->Tf P w H4 a (putK kvs k v)->D.nx σ H4
theorem aHd (hu:X.A.units + 1 < cLine) (ho:PE X o td) (hi:PE X i ty) (hv:PE X value tv) (hs:GK value (some (.Subscript o i pos')) pos.line X.env=pure false) :
  PS X (.Assign [.Subscript o i pos'] value pos) (aKo X.prog X.w td ty tv):=by
 intro pins s σ H D I h
 refine Jc (thn (hv pins s σ H _ I h) fun r s1 ⟨v,H1,I1,rv,q1⟩=>thn (ho pins s1 σ H1 _ I1 q1) fun u s2 ⟨x,H2,I2,rx,q2⟩=>thn (hi pins s2 σ H2 _ I2 q2) fun iv s3 ⟨y,H3,I3,ry,a,b,kvs,k,ex,ey,t,eb,hl,q3⟩=>?_) hs
 subst ex ey
 obtain rfl:u=Value.ref a:=rx
 obtain rfl:iv=Value.ref b:=ry
 exact aGS hu I3 t eb hl rv fun s4 H4 I4 kp t4=>⟨σ,H4,I4,q3 H4 kp t4⟩
end
section
variable {X:Cx} {pins:List (Addr×Obj)} {σ:St} {H:Hp} {s:Ad} {a b:Addr} {kvs:List (List Int×V)} {k:List Int} {A:AY} {E:Value->Ad->Prop}
theorem aGT {v:V} {r:Value} {Q:Unit->Ad->Prop} (hu:A.units < cLine) (I:Inv X pins σ H s) (t:Tf X.prog X.w H a kvs) (eb:Rd H b (.tup (k.map V.int))) (hl:kvs.length < sizeLine) (rv:RelV v r)
  (h:∀ s' H',Inv X pins σ H' s'->(∀ c,c≠a->H' c=H c)->Tf X.prog X.w H' a (putK kvs k v)->Q () s'):Ar (AB X.prog X.w) A (dictSet a (.ref b) r) Q E s:=by
 obtain ⟨hsys,hz0,xs,rel,dd⟩:=aCU I t
 have hz:xs.length<=sizeLine:=by rw [<- Ds rel]; exact hz0
 have hl2:(putK kvs k v).length<=sizeLine:=by have:=qQ kvs k v; lia
 refine wpAny_dictSet_heap (knd:=BI (Ch X.prog X.w)) (hsz:=hz) hu (aE2 I.hok eb) dd fun h' dd' hs=>?_
 obtain ⟨q,es,ep,hq,h2,h3,h4,_,h5⟩:=dd'
 obtain ⟨xs0,e0,_⟩:=t
 have I2:Inv X pins σ (upd H a (DfO X.prog X.w a (Fw xs k b r))) { s with heap:=h',toks:=s.toks + (BI (Ch X.prog X.w)).draws k } :=
  I.write (x:=a) (e:=a) (by rw [e0]; exact DJ) (.inl rfl) (fun c q hb z=>(hs.2 c hb).trans z) ⟨q,hq⟩ (aGQ ⟨q,es,ep,hq,h2,h3,h4⟩)
 refine h _ _ I2 (fun c hc=>zH hc) ⟨_,zC,hl2,hsys,(rel.put k eb rv).keeps fun c ys ec=>?_,h5⟩
 rcases ec with ec | ⟨oc,ec⟩
 ·left; rw [zH (fun z=>by rw [z,e0] at ec; cases ec)]; exact ec
 ·right; exact ⟨oc,by rw [zH (fun z=>by rw [z,e0] at ec; cases ec)]; exact ec⟩
end
section
variable {X:Cx} {ke ve:Expr} {tk tv:TE} {pos:Pos}
theorem aGU (hu:X.A.units + 1 < cLine) (hk:PE X ke tk) (hv:PE X ve tv):PE X (.Dict [some ke] [ve] pos) (fun σ H Q=>∀ p,H p=none->tk σ (upd H p (DfO X.prog X.w p [])) fun x H1=>tv σ H1 fun y H2 =>
  ∃ (b:Addr) (k:List Int),x=.ref b/\H2 p=some (DfO X.prog X.w p [])/\Rd H2 b (.tup (k.map V.int))/\∀ H3:Hp,(∀ c,c≠p->H3 c=H2 c)->Tf X.prog X.w H3 p [(k,y)]->Q (.ref p) H3):=by
 intro pins s σ H Q I h
 rw [arm_eval_Dict,zip_pairTrees [some ke] [ve] X.env pos rfl rfl,dictDisplay_pairs _ (by rw [<- CV,IV _ _ _ _ rfl rfl]; show 0 < 1; decide) (by rw [IV _ _ _ _ rfl rfl]; show 1 < 17; decide)]
 refine Aa (BG (Aa ?_))
 unfold subDict
 refine Aa (IE ?_)
 refine Aa (Bw ?_)
 rw [if_pos (by rw [IV _ _ _ _ rfl rfl]; show 1<=15; decide)]
 have hf:H s.heap.objs.size=none:=I.hok.fresh (Ak _)
 have hsys:(s.heap.objs.size == BM)=false:=beq_eq_false_iff_ne.mpr (BT (AC I.big))
 have I1:=I.laid (a:=s.heap.objs.size) (o:=DfO X.prog X.w s.heap.objs.size []) (h':=s.heap.push { cls:=.type "dict",data:=.dict #[] }) (t':=s.toks) (fun _ _ q=>Ac _ q) (Ak _) (aGQ ⟨_,#[],0,Ag _ rfl,⟨rfl,rfl,rfl⟩,rfl,rfl⟩)
 refine Aa (pairTrees_cons_walk (thn (hk pins _ σ _ _ I1 (h _ hf)) fun u s1 ⟨x,H1,J1,rx,q1⟩=>thn (hv pins s1 σ H1 _ J1 q1) fun w2 s2 ⟨y,H2,J2,ry,b,k,ex,e2,eb,q2⟩=>pairTrees_nil_walk ?_))
 subst ex
 obtain rfl:u=Value.ref b:=rx
 refine Bw (Aa ?_)
 rw [FK]
 refine Aa (Aa (aGT (kvs:=[]) (by lia) J2 ⟨[],e2,AL _,hsys,.nil,Dc⟩ eb (by rw [Bb]; decide) ry fun s3 H3 J3 kp t3=>Ab ?_))
 show Ar _ _ (forIn [] NF _) _ _ _
 rw [JY]
 exact Ab (Ab (Ab (Ab ⟨.ref s.heap.objs.size,H3,J3,rfl,q2 H3 kp t3⟩)))
end
section
variable {prog:At} {w:AV} {A:AY} {E:Value->Ad->Prop} {s:Ad}
end
end L2
namespace L2
open PySem PySem.Spec PyProof.Rows PySem.W
section
variable {prog:At} {w:AV} {A:AY} {E:Value->Ad->Prop} {s:Ad}
theorem aGV {d I:Addr} {o:Obj} {es:Array Cs} {ep:Nat} (hh:A.handled=none) (hne:d≠I) (hd:o.data=.dict es ep) :
  NI prog w A I [I,d] [I] es.size (fun i v=>∃ e,es[i]?=some e/\v=e.key) (fun i h=>jD h I d i es.size ep/\h.get? d=some o) where
 sub:=fun b hb=>by simp at hb; simp [hb]
 frame:=fun i h h' st k=>⟨k I (by simp) _ st.1,k d (by simp) _ st.2⟩
 item:=fun i s Q E hi st hQ=>aCS st.1 st.2 hd (Br hi) fun h' it' sb =>
  hQ _ h' s.toks ⟨_,Br hi,rfl⟩ ⟨it',(sb.2 d hne).trans st.2⟩ fun b o nb e=>(sb.2 b (by simpa using nb)).trans e
 done:=fun s Q E st hQ=>aCT hh st.1 st.2 hd (CQ (Ak _)) fun h' eb=>hQ h' s.toks fun b o nb e=>eb b o (by simpa using nb) e
 self:=fun i s Q E st h=>yz (d:=d) (i:=i) (n:=es.size) (ep:=ep) ⟨_,st.1,rfl,rfl⟩ h
theorem aJI {d:Addr} {o:Obj} {es:Array Cs} {ep:Nat} (lo:(d == BM)=false) (hc:o.cls=.type "dict") (hd:o.data=.dict es ep) :
  KdlSrc prog w "dict" d d es.size (fun i v=>∃ e,es[i]?=some e/\v=e.key) (fun h=>h.get? d=some o) where
 type:=fun _ hm=>⟨o,hm,hc⟩
 there:=fun _ hm=>⟨Ap hm,Ap hm⟩
 keep:=fun _ _ hm hk=>hk d (.inl rfl) o hm
 notList:=by decide
 notTuple:=by decide
 hint:=fun _ _ _ _ hm hq=>kdl_hint_dict ⟨o,hm,hc⟩ hq
 iter:=fun _ s hh hm=>⟨_,_,(fun _ _ hq=>aCR lo hm hc hd hq),aGV hh (AC (Ap hm)) hd,⟨Ag _ rfl,Ac _ hm⟩⟩
theorem aDG {a:Addr} {o:Obj} {es:Array Cs} {ep:Nat} {Q:List Value->Ad->Prop} (hh:A.handled=none) (hsys:(a == BM)=false) (ho:s.heap.get? a=some o) (hc:o.cls=.type "dict") (hd:o.data=.dict es ep) (hz:es.size<=900000)
  (q:∀ (g:Heap) (tk:Nat),(∀ b o,s.heap.get? b=some o->g.get? b=some o)->s.heap.objs.size < g.objs.size->Q (es.toList.map (·.key)) { s with heap:=g,toks:=tk }) :
  Ar (AB prog w) A (Lm (.ref a)) Q E s:=by
 have szl:=Bb
 unfold Lm
 refine Aa (Hz (BS GD ?_))
 show Ar _ _ (do Jg (.builtin "list.__iadd__" ⟨[<- Mm [],.ref a],[]⟩)) _ _ s
 have ne:s.heap.objs.size≠a:=Cd (Ap ho)
 refine Aa (DF (Ab ⟨DB _ (by decide +kernel),aKX (s:={ s with heap:=s.heap.push (Bg "list" #[] 0) }) (aJI (o:=o) (es:=es) (ep:=ep) hsys hc hd) hh (Ac _ ho) ne ne (Ag _ rfl) (by lia) fun h' tk acc' c' k hS' hacc=>?_⟩))
 show Ar _ _ (load s.heap.objs.size >>= _) Q E _
 refine Aa (JG hS' (Ab ?_))
 obtain ⟨sz,it⟩:=hacc
 have e:acc'.toList=es.toList.map (·.key):=by
  apply Gc
  intro i
  rw [AO,BA,BA]
  rcases Eu i es.size with hi | hi
  ·have ei:acc'[i]?=some acc'[i]:=Br (by lia)
   obtain ⟨en,e1,e2⟩:=it i _ ei
   rw [ei,e1,e2]; rfl
  ·rw [CQ (by lia),CQ hi]; rfl
 show Q acc'.toList _
 rw [e]
 refine q h' tk (fun b ob e=>k b ob (fun z=>?_) (Ac _ e)) (Ap hS')
 rw [z] at e
 exact absurd (Ap e) (BC _)
end
theorem aB4:∀ bs:List Addr,Vals (bs.map V.ref) (bs.map Value.ref)
 | []=>.nil
 | b :: r=>.cons rfl (aB4 r)
theorem aHe {H:Hp} {kvs:List (List Int×V)} {ys:List (List Int×Addr×Value)} (rel:KTF H kvs ys):AH (fun (b:Addr) (kv:List Int×V)=>Rd H b (.tup (kv.1.map V.int))) (ys.map (·.2.1)) kvs:=by
 induction rel with
 | nil=>exact .nil
 | cons h t ih=>exact .cons h.2.1 ih
section
variable {X:Cx}
end
end L2
namespace L2
open PySem PySem.Spec PyProof.Rows
noncomputable def TupV (H:Hp) (v:V) (r:List Int):Prop:=∃ q,v=.ref q/\H q=some (.tup (r.map V.int))
theorem yq:∀ {a b:List Int},a.map V.int=b.map V.int->a=b
 | [],[],_=>rfl
 | [],_ :: _,h=>by simp at h
 | _ :: _,[],h=>by simp at h
 | x :: a,y :: b,h=>by
  rw [AA,AA] at h
  injection h with h1 h2
  rw [V.int.inj h1,yq h2]
theorem aCV:∀ a b:List Int,eqDs (a.map D.int) (b.map D.int)=decide (a=b)
 | [],[]=>by rw [BX,eqDs]; rfl
 | [],y :: b=>by rw [BX,AA,eqDs] <;> simp
 | x :: a,[]=>by rw [BX,AA,eqDs] <;> simp
 | x :: a,y :: b=>by
  rw [AA,AA,eqDs,aCV a b,eqD]
  by_cases h:x=y
  ·subst h; simp
  ·simp [h]
theorem aKp {K:Af} {H:Hp} {p:Addr} {r:List Int} (g:H p=some (.tup (r.map V.int))):Rep K H (.tup (r.map D.int)) (.ref p):=by
 unfold Rep
 exact ⟨p,_,rfl,SqT.of g,aC4 r⟩
theorem aLv (r:List Int):(D.tup (r.map D.int)).dep=1:=by rw [D.dep,aC6]
noncomputable def fInR (H:Hp) (r:List Int) (v:Value):Bool:=match v with
 | .ref q=>(match H q with | some (.tup zs)=>decide (zs=r.map V.int) | _=>false)
 | _=>false
section
variable {X:Cx} {pins:List (Addr×Obj)} {σ:St} {H:Hp} {s:Ad}
theorem aGW {r:List Int}:∀ {xs:List V} {rs:List (List Int)} {its:List Value},AH (TupV H) xs rs->Vals xs its->its.any (fInR H r)=decide (r∈rs)
 | _,_,_,.nil,.nil=>by simp
 | _,_,_,.cons h t,.cons h2 t2=>by
  obtain ⟨q,rfl,g⟩:=h
  cases h2
  rw [Ew,aGW t t2]
  rename_i r' _ _ _
  have:fInR H r (.ref q)=decide (r=r'):=by
   unfold fInR
   show (match H q with | some (.tup zs)=>decide (zs=r.map V.int) | _=>false)=_
   rw [g]
   show decide (r'.map V.int=r.map V.int)=_
   by_cases e:r=r'
   ·subst e; simp
   ·rw [decide_eq_false e,decide_eq_false fun z=>e (yq z).symm]
  rw [this]
  simp [Aj]
theorem aIJ (I:Inv X pins σ H s) (hA:X.A.units + 60 < cLine) {x:V} {u:Value} {r:List Int} (hx:TupV H x r) (ru:RelV x u):∀ {xs:List V} {rs:List (List Int)} {its:List Value},AH (TupV H) xs rs->Vals xs its->∀ y∈its,Fy X.A.in1 s y u (fInR H r y)
 | _,_,_,.nil,.nil=>fun y hy=>nomatch hy
 | _,_,_,.cons h t,.cons h2 t2=>fun y hy=>by
  rcases Aj.mp hy with rfl | hy
  ·obtain ⟨q,rfl,g⟩:=h
   cases h2
   rename_i r' _ _ _
   obtain ⟨q0,rfl,g0⟩:=hx
   have:=aI6 I 50 X.A.in1 _ _ _ _ _ _ (by rw [aLv]; decide) (by show X.A.units + 1 + 50 < cLine; lia) (aKp g) (aKp g0) rfl ru
   rw [eqD,aCV] at this
   have e:fInR H r (.ref q)=decide (r'=r):=by
    unfold fInR
    show (match H q with | some (.tup zs)=>decide (zs=r.map V.int) | _=>false)=_
    rw [g]
    show decide (r'.map V.int=r.map V.int)=_
    by_cases e:r'=r
    ·subst e; simp
    ·rw [decide_eq_false e,decide_eq_false fun z=>e (yq z)]
   rw [e]
   exact this
  ·exact aIJ I hA hx ru t t2 y hy
end
section
variable {prog:At} {w:AV}
end
section
variable {X:Cx} {o e:Expr} {to te:TE} {apos cpos:Pos}
end
theorem aEj {α:Type} {l:List α} {i:Nat} {x:α} (h:l[i]?=some x):l.take (i + 1)=l.take i++[x]:=by rw [Il,h]; rfl
noncomputable def hsh (k:List Int):Int:=reduceHash (Builtin.Tuple.tupleHashOf (k.map hashInt))
noncomputable def mgH {K:Type} [DecidableEq K] (xs ys:List (K×Addr×Value)):List (K×Addr×Value):=ys.foldl (fun acc y=>Fw acc y.1 y.2.1 y.2.2) xs
noncomputable def mgV {K:Type} [DecidableEq K] (xs ys:List (K×V)):List (K×V):=ys.foldl (fun acc y=>putK acc y.1 y.2) xs
section
variable {prog:At} {w:AV} {K:Type} [DecidableEq K] {knd:HeapKind prog w K} {A:AY} {E:Value->Ad->Prop} {s:Ad}
theorem aEk (xs:List (K×Addr×Value)) (k:K) (a:Addr) (v:Value):(Fw xs k a v).length<=xs.length + 1:=by
 unfold Fw
 split
 ·rw [Ah]; lia
 ·rw [Ai]; exact Ak _
theorem aKq (ys:List (K×Addr×Value)):∀ xs:List (K×Addr×Value),(mgH xs ys).length<=xs.length + ys.length:=by
 induction ys with
 | nil=>intro xs; exact Ak _
 | cons y r ih =>
  intro xs
  have h1:=ih (Fw xs y.1 y.2.1 y.2.2)
  have h2:=aEk xs y.1 y.2.1 y.2.2
  show (mgH (Fw xs y.1 y.2.1 y.2.2) r).length<=xs.length + (r.length + 1)
  lia
theorem aJJ {xs ys:List (K×Addr×Value)} {i:Nat} {y:K×Addr×Value} (h:ys[i]?=some y):mgH xs (ys.take (i + 1))=Fw (mgH xs (ys.take i)) y.1 y.2.1 y.2.2:=by
 unfold mgH
 rw [aEj h,CZ]
 rfl
theorem aEl {d a:Addr} {xs:List (K×Addr×Value)} {k:K} {v:Value} {Q:Unit->Ad->Prop} (hu:knd.room A) (hkey:knd.is s.heap k a) (hm:s.heap.DictOfH knd d xs) (hsz:xs.length<=sizeLine)
  (hQ:∀ h',h'.DictOfH knd d (Fw xs k a v)->Cc d s.heap h'->Q () { s with heap:=h' }):Ar (AB prog w) A (IL d (.ref a) (knd.hash k) v) Q E s:=by
 obtain ⟨o,es,ep,ho,hc,hd,he,his,hn⟩:=hm
 have esz:=JD he
 unfold IL
 refine Bw (Aa (wpAny_dictFind_heap hu hkey ho hd he his hn (fun hno=>?_) fun j p hj=>?_))
 ·have hnot:k ∉ xs.map (·.1):=not_mem_keys_of_get hno
  have e0:=storedH_new (Ly hno) a v
  refine Aa (CK (wpAny_updateDictKeys (hz:=by lia) ho hd (hQ _ ?_ (AX ..))))
  rw [e0]
  refine ⟨_,_,ep + 1,AQ _ ho (GX (Fd hd _)),hc.mapDictKeys _,Fd hd _,by simp [he,Cu],fun x hx=>?_,?_⟩
  ·rcases Bj.mp hx with hx | hx
   ·exact knd.keeps (his x hx) ho hd (AX ..)
   ·rw [Ae.mp hx]; exact knd.keeps hkey ho hd (AX ..)
  ·rw [Bh]
   exact Gd.mpr ⟨hn,DG _ _,fun x hx y hy e=>hnot (by rw [<- show y=k by simpa using hy,<- e]; exact hx)⟩
 ·have e0:=storedH_old (atKey_of_get hn hj) a v
  refine Aa (CK (Aa (wpAny_updateDict ho hd (wpAny_point (hQ _ ?_ (AX ..))))))
  rw [e0]
  refine ⟨_,_,ep,AQ _ ho (GX (LX hd _)),hc.mapDict _,LX hd _,?_,fun x hx=>?_,by rw [keys_map_putAt]; exact hn⟩
  ·have t:=modify_map_putAt (Cu knd) (fun e:Cs=>{ e with val:=v }) k v (fun _ _=>rfl) hn hj
   rw [<- he] at t
   obtain ⟨l⟩:=es
   simpa using t
  ·obtain ⟨y,hy,rfl⟩:=Bk.mp hx
   unfold Mv
   split <;> exact knd.keeps (his y hy) ho hd (AX ..)
theorem aHf {ys:List (K×Addr×Value)} (h:(ys.map fun y=>knd.hash y.1).Nodup) {es:Array Cs} (he:es.toList=ys.map (Cu knd)) {e:Cs} (hm:e∈es.toList):¬ (es.filter (·.hash == e.hash)).size > 1:=by
 have e1:(es.filter (·.hash == e.hash)).toList=es.toList.filter (·.hash == e.hash):=by simp
 rw [<- Bt,e1,he]
 rw [he] at hm
 obtain ⟨y,hy,rfl⟩:=Bk.mp hm
 clear hm e1 he
 have all:∀ l:List (K×Addr×Value),(l.map fun y=>knd.hash y.1).Nodup->((l.map (Cu knd)).filter (·.hash == (Cu knd y).hash)).length<=1:=by
  intro l
  induction l with
  | nil=>intro _; simp
  | cons z r ih =>
   intro nd
   obtain ⟨n1,n2⟩:=Dv.mp nd
   rw [AA,IW]
   split
   ·rename_i c
    have c':knd.hash z.1=knd.hash y.1:=by simpa [Cu] using c
    have:(r.map (Cu knd)).filter (·.hash == (Cu knd y).hash)=[]:=by
     rw [Jd]
     intro q hq
     obtain ⟨x,hx,rfl⟩:=Bk.mp hq
     intro c2
     have c2':knd.hash x.1=knd.hash y.1:=by simpa [Cu] using c2
     exact n1 (Bk.mpr ⟨x,hx,c2'.trans c'.symm⟩)
    rw [this]; simp
   ·exact ih n2
 have:=all ys h
 lia
end
section
variable {prog:At} {w:AV} {A:AY} {E:Value->Ad->Prop} {s:Ad}
theorem aJK {d o:Addr} {xs ys:List (List Int×Addr×Value)} {Q:Unit->Ad->Prop} (hu:A.units < cLine) (hne:d≠o) (hoS:(o == BM)=false) (hz:xs.length + ys.length<=sizeLine)
  (hd:s.heap.DictOfH (BI (Ch prog w)) d xs) (ho:s.heap.DictOfH (BI (Ch prog w)) o ys) (hh:xs=[]->(ys.map fun y=>hsh y.1).Nodup)
  (h:∀ h',h'.DictOfH (BI (Ch prog w)) d (mgH xs ys)->Cc d s.heap h'->Q () { s with heap:=h' }) :
  Ar (AB prog w) A (Je "dict.update" d o) Q E s:=by
 obtain ⟨oo,es,ep,hoo,hco,hdo,hko,hio,hno⟩:=id ho
 have esz:=JD hko
 unfold Je
 rw [if_neg (by simpa using hne)]
 unfold JC
 rw [if_neg (show ¬ (o == BM)=true by rw [hoS]; exact Av)]
 refine Aa (Ab (Aa (Cp hoo hdo ?_)))
 dsimp only
 have loop:Ar (AB prog w) A (do
   let epoch <- dictEpoch o
   for i in [0:(<- dictEntries o).size] do
    let some e:=(<- dictEntries o)[i]? | IB "internal:dict-merge"
    Iq [e.key,e.val] (IL d e.key e.hash e.val)
    if (<- dictEpoch o) != epoch then IB s!"{"dict.update"}:source-changed-during-callback") Q E s:=by
  refine Aa (DT hoo hdo (Aa (Cp hoo hdo (Aa ?_))))
  rw [Std.Legacy.Range.forIn_eq_forIn_range']
  simp only [Std.Legacy.Range.size,LG,KP,Nat.div_one]
  refine LY _ (fun rest _ s'=>∃ g i,s'={ s with heap:=g }/\i + rest.length=es.size/\rest=NE i rest.length/\g.DictOfH (BI (Ch prog w)) d (mgH xs (ys.take i))/\Cc d s.heap g) _ ?_ ?_ _ _
   ⟨s.heap,0,rfl,by simp,by simp,hd,Ik _ _⟩
  ·rintro x rest b s' ⟨g,i,rfl,hi,hri,dg,sb⟩
   have hx:x=i:=by rw [AJ,LZ] at hri; exact (Nd hri).1
   have hrest:rest=NE (i + 1) rest.length:=by rw [AJ,LZ] at hri; exact (Nd hri).2
   subst hx
   rw [AJ] at hi
   have hoo':g.get? o=some oo:=(sb.2 o (BT hne)).trans hoo
   refine Aa (Cp hoo' hdo ?_)
   obtain ⟨⟨k,p⟩,hkp⟩:∃ p,ys[x]?=some p:=⟨ys[x]'(by lia),Ax _⟩
   have he:es[x]?=some (Cu (BI (Ch prog w)) (k,p)):=by rw [entry_at hko,hkp]; rfl
   rw [he]
   have hkey:=hio (k,p) (Au hkp)
   obtain ⟨od0,es0,ep0,hod0,_,hdd0,_⟩:=id hd
   have hkg:(BI (Ch prog w)).is g k p.1:=(BI (Ch prog w)).keeps hkey hod0 hdd0 sb
   have ml:=aKq (ys.take x) xs
   have tl:(ys.take x).length<=ys.length:=by rw [Bz]; lia
   show Ar _ _ (Iq [.ref p.1,p.2] (IL d (.ref p.1) ((BI (Ch prog w)).hash k) p.2) >>= _) _ _ _
   refine Aa (Bw (aEl (s:={ s with heap:=g }) hu hkg dg (by lia) fun g2 dg2 sb2=>?_))
   have hoo2:g2.get? o=some oo:=(sb2.2 o (BT hne)).trans hoo'
   refine Aa (DT hoo2 hdo ?_)
   rw [if_neg (by simp)]
   exact Ab ⟨g2,x + 1,rfl,by lia,hrest,by rw [aJJ hkp]; exact dg2,sb.trans sb2⟩
  ·rintro b s' ⟨g,i,rfl,hi,_,dg,sb⟩
   rw [EO] at hi
   have ei:i=ys.length:=by lia
   rw [ei,AE] at dg
   exact Ab (h g dg sb)
 split
 ·rename_i hfew
  obtain ⟨od,es0,ep0,hod,hcd,hdd,hkd,hid,hnd⟩:=id hd
  refine Aa (Cp hod hdd ?_)
  split
  ·rename_i hemp
   have e0:es0=#[]:=Lz.mp hemp
   have ex:xs=[]:=by
    rw [e0] at hkd
    exact Kx.mp hkd.symm
   subst ex
   have hnd':=hh rfl
   have em:mgH ([]:List (List Int×Addr×Value)) ys=ys:=by
    have all:∀ (r acc:List (List Int×Addr×Value)),((acc++r).map (·.1)).Nodup->mgH acc r=acc++r:=by
     intro r
     induction r with
     | nil=>intro acc _; exact (AM _).symm
     | cons y t ih =>
      intro acc nd
      have ny:IJ acc y.1=none:=Ly fun j p hj=>by
       rw [Bh,AA] at nd
       have:=(Gd.mp nd).2.2 y.1 (Bk.mpr ⟨_,Au hj,rfl⟩) y.1 (Am ..)
       exact this rfl
      show mgH (Fw acc y.1 y.2.1 y.2.2) t=_
      rw [storedH_new ny,ih _ (by rw [By]; exact nd),By]; rfl
    exact all ys [] (by simpa using hno)
   rw [em] at h
   unfold Builtin.Dict.entriesForEmpty
   refine Aa (Aa (Cp hoo hdo (Aa ?_)))
   rw [<- Array.forIn_toList]
   refine LY _ (fun rest _ s'=>s'=s/\∀ e∈rest,e∈es.toList) _ ?_ ?_ _ _ ⟨rfl,fun e he=>he⟩
   ·rintro e rest b s' ⟨rfl,hm⟩
    have he:=hm e (Am ..)
    have h1:=aHf (knd:=BI (Ch prog w)) hnd' hko he
    have he2:=he
    rw [hko] at he2
    obtain ⟨y,hy,rfl⟩:=Bk.mp he2
    obtain ⟨ok,its,n,g1,g2,_⟩:=hio y hy
    have hT:s'.TypeIs (.ref y.2.1) "tuple":=⟨ok,g1,g2⟩
    refine Aa ?_
    unfold Builtin.Dict.quietEq
    show Ar _ _ (specialOf (.ref y.2.1) "__eq__" >>= _) _ _ _
    refine Aa (ET hT PySem.F.slot_tuple_eq.lookup (Ab ?_))
    rw [if_pos (by decide),if_neg h1]
    exact Ab ⟨rfl,fun e he=>hm e (Al _ he)⟩
   ·rintro b s' ⟨rfl,_⟩
    refine Ab ?_
    split
    ·refine Aa (wpAny_updateDictKeysTo hod hdd (Ab (h _ ⟨_,_,ep0 + 1,AQ _ hod (GX (Fd hdd _)),hcd.mapDictKeys _,Fd hdd _,hko,fun x hx=>?_,hno⟩ (AX ..))) (by rw [EO] at hz; lia))
     exact (BI (Ch prog w)).keeps (hio x hx) hod hdd (AX ..)
    ·rename_i hne2
     have e1:es=#[]:=Lz.mp (by simpa using hne2)
     have ey:ys=[]:=by
      rw [e1] at hko
      exact Kx.mp hko.symm
     subst ey
     exact Ab (h _ hd (Ik _ _))
  ·exact loop
 ·exact loop
theorem aEm {d o:Addr} {xs ys:List (List Int×Addr×Value)}:MeetsIn prog w (Builtin.«dict.update» ⟨[.ref d,.ref o],[]⟩) (fun A R s=>A.in1.units < cLine/\d≠o/\(o == BM)=false/\xs.length + ys.length<=sizeLine/\s.heap.DictOfH (BI (Ch prog w)) d xs/\s.heap.DictOfH (BI (Ch prog w)) o ys/\(xs=[]->(ys.map fun y=>hsh y.1).Nodup) /\
   ∀ h',h'.DictOfH (BI (Ch prog w)) d (mgH xs ys)->Cc d s.heap h'->R (.ok (.ret .none)) { s with heap:=h' }) :=
 .of_wp fun A R s ⟨hu,hne,hoS,hl,hd,ho,hh,h⟩=>by
  unfold Builtin.«dict.update»
  refine Aa ?_
  unfold Builtin.Dict.selfAndRest
  refine Aa (Gq hd.typeIs ?_)
  show Ar _ _ (pure (d,[Value.ref o])) _ _ _
  refine Ab ?_
  show Ar _ _ (IM "dict.update" d (.ref o) [] .none) _ _ _
  unfold IM
  refine Aa (FA ho.typeIs ?_)
  rw [if_neg (by decide)]
  refine Aa ?_
  unfold Builtin.Dict.merge
  refine Aa ?_
  unfold Builtin.Dict.readDirectly
  refine Aa (DW ho.typeIs isSubtype_dict_dict ?_)
  simp only [MT,BN,if_false]
  refine Aa (ET ho.typeIs IU.lookup (Ab ?_))
  simp only [beq_self_eq_true,if_true]
  refine Aa (Ab ?_)
  refine aJK hu hne hoS hl hd ho hh fun h' hd' hs'=>?_
  show Ar _ _ (Builtin.Dict.addKeywords d [] >>= _) _ _ _
  exact Aa (Ab (Ab ⟨.none,rfl,h h' hd' hs'⟩))
end
theorem KTF.mg {H:Hp}:∀ {k2:List (List Int×V)} {ys:List (List Int×Addr×Value)} {k1:List (List Int×V)} {xs:List (List Int×Addr×Value)},KTF H k1 xs->KTF H k2 ys->KTF H (mgV k1 k2) (mgH xs ys)
 | _,_,_,_,r,.nil=>r
 | (k,v) :: _,(k',a,u) :: _,_,_,r,.cons h t=>by
  obtain ⟨h1,h2,h3⟩:=h
  have h1':k=k':=h1
  subst h1'
  exact KTF.mg (k1:=putK _ k v) (xs:=Fw _ k a u) (r.put k h2 h3) t
theorem aJL (ys:List (List Int×V)):∀ xs:List (List Int×V),(mgV xs ys).length<=xs.length + ys.length:=by
 induction ys with
 | nil=>intro xs; exact Ak _
 | cons y r ih =>
  intro xs
  have h1:=ih (putK xs y.1 y.2)
  have h2:=qQ xs y.1 y.2
  show (mgV (putK xs y.1 y.2) r).length<=xs.length + (r.length + 1)
  lia
theorem aE3 {H:Hp}:∀ {kvs:List (List Int×V)} {ys:List (List Int×Addr×Value)},KTF H kvs ys->(ys.map fun y=>hsh y.1)=kvs.map fun y=>hsh y.1
 | _,_,.nil=>rfl
 | _,_,.cons h t=>by rw [AA,AA,aE3 t,h.1]
theorem aCW {H:Hp}:∀ {kvs:List (List Int×V)} {ys:List (List Int×Addr×Value)},KTF H kvs ys->ys.map (·.1)=kvs.map (·.1)
 | _,_,.nil=>rfl
 | _,_,.cons h t=>by rw [AA,AA,aCW t,h.1]
section
variable {X:Cx} {o e:Expr} {to te:TE} {apos cpos:Pos}
theorem aGX (hu:X.A.units + 1 < cLine) (ho:PE X o to) (he:PE X e te) (hbase:EZ o "update" X.env (eval o X.env)=eval o X.env:=by rfl)
  (hfew:((Fe cpos (AW [e] X.env)).all (fun x=>!x.1) && (MO cpos (Kn [] X.env)).all (fun x=>x.1.isSome)
   && decide (([e]:List Expr).length + ([]:List Jh).length + (if ([]:List Jh).isEmpty then 0 else 1) < 30))=true:=by rfl)
  (hline:(apos.endLine == cpos.line)=true:=by rfl) (hs:AW [e] X.env=(false,eval e X.env) :: AW [] X.env:=by rfl) (hplain:(Fe cpos (AW [] X.env)).any (·.1)=false:=by rfl) :
  PE X (.Call (.Attribute o "update" apos) [e] [] cpos) (fun σ H Q=>to σ H fun x H1=>∃ (d:Addr) (k0:List (List Int×V)),x=.ref d/\Tf X.prog X.w H1 d k0/\te σ H1 fun y H2=>∃ (b:Addr) (kd kvs:List (List Int×V)),y=.ref b/\d≠b/\Tf X.prog X.w H2 d kd/\Tf X.prog X.w H2 b kvs/\kd.length + kvs.length<=sizeLine/\(kd=[]->(kvs.map fun y=>hsh y.1).Nodup) /\
   ∀ H3:Hp,(∀ c,c≠d->H3 c=H2 c)->Tf X.prog X.w H3 d (mgV kd kvs)->Q .non H3):=by
 intro pins s σ H Q I h
 refine Ja hbase hfew hline rfl (thn (ho pins s σ H _ I h) fun v s1 ⟨x,H1,I1,r1,d,k0,ex,t1,q1⟩=>?_)
 subst ex
 obtain rfl:v=Value.ref d:=r1
 obtain ⟨_,_,_,_,o2,es2,ep2,g1,g2,g3,_⟩:=aCU I1 t1
 refine ⟨"dict","dict.update",PySem.F.plainAttrs_dict,Io,PySem.F.type_dict_update,⟨_,g1,g2.1⟩,fun b eb=>by cases eb; exact ⟨_,g1,g2.2.1⟩,?_⟩
 have hA:=zB he zE (by rw [hs] <;> rfl) cpos pins s1 σ H1 (fun vs H2=>match vs with
   | [y]=>∃ (b:Addr) (kd kvs:List (List Int×V)),y=.ref b/\d≠b/\Tf X.prog X.w H2 d kd/\Tf X.prog X.w H2 b kvs/\kd.length + kvs.length<=sizeLine/\(kd=[]->(kvs.map fun y=>hsh y.1).Nodup)/\∀ H3:Hp,(∀ c,c≠d->H3 c=H2 c)->Tf X.prog X.w H3 d (mgV kd kvs)->Q .non H3
   | _=>False) I1 q1
 rw [hs] at hA ⊢
 refine Dl (by show (false || (Fe cpos (AW [] X.env)).any (·.1))=false; rw [hplain] <;> rfl) (GB ?_)
 refine thn hA fun us s2 ⟨vs,H2,I2,r2,z2⟩=>?_
 match vs,z2 with
 | [y],⟨b,kd,kvs,ey2,hne,td,tb,hl,hh,q2⟩ =>
 subst ey2
 obtain ⟨u,rfl,ru⟩:=jj r2
 obtain rfl:u=Value.ref b:=ru
 obtain ⟨_,_,xd,reld,dd⟩:=aCU I2 td
 obtain ⟨sb,_,xb,relb,db⟩:=aCU I2 tb
 have l1:=Ds reld
 have l2:=Ds relb
 refine LN Io dd.typeIs PySem.F.entry_dict_update (PySem.F.args_dict_update_2 _ _) (aEm (d:=d) (o:=b) (xs:=xd) (ys:=xb)) ⟨(by first | exact hu | lia),hne,sb,by rw [<- l1,<- l2]; exact hl,dd,db,fun z=>?_,fun h' ⟨q',es',ep',k1,k2,k3,k4,k5,k6⟩ hsb=>?_⟩
 ·rw [aE3 relb]
  exact hh (IN.mp (by rw [l1,z]; rfl))
 obtain ⟨xs0,e0,_,sd0,_⟩:=td
 have I3:Inv X pins σ (upd H2 d (DfO X.prog X.w d (mgH xd xb))) { s2 with heap:=h' } :=
  I2.write (x:=d) (e:=d) (t':=s2.toks) (by rw [e0]; exact DJ) (.inl rfl) (fun c q hb z=>(hsb.2 c hb).trans z) ⟨q',k1⟩ (aGQ ⟨q',es',ep',k1,k2,k3,k4⟩)
 have ml:=aJL kvs kd
 refine ⟨.non,_,I3,rfl,q2 _ (fun c hc=>zH hc) ⟨mgH xd xb,zC,by lia,sd0,(reld.mg relb).keeps fun c ys ec=>?_,k6⟩⟩
 rcases ec with ec | ⟨oc,ec⟩
 ·left; rw [zH (fun z=>by rw [z,e0] at ec; cases ec)]; exact ec
 ·right; exact ⟨oc,by rw [zH (fun z=>by rw [z,e0] at ec; cases ec)]; exact ec⟩
end
theorem KTF.get {H:Hp} {kvs:List (List Int×V)} {xs:List (List Int×Addr×Value)} (r:KTF H kvs xs) {i:Nat} {k:List Int} {x:V} (h:kvs[i]?=some (k,x)):∃ q u,xs[i]?=some (k,q,u)/\Rd H q (.tup (k.map V.int))/\RelV x u:=by
 revert i
 induction r with
 | nil=>intro i h; simp at h
 | @cons p y ps ys a b ih =>
  intro i h
  cases i with
  | zero =>
   simp at h
   subst h
   obtain ⟨a1,a2,a3⟩:=a
   obtain ⟨y1,y2,y3⟩:=y
   simp only at a1 a2 a3
   subst a1
   exact ⟨y2,y3,rfl,a2,a3⟩
  | succ i=>simp at h; obtain ⟨q,u,h1,h2⟩:=ih h; exact ⟨q,u,by simpa using h1,h2⟩
noncomputable def Itvf (P:At) (w:AV) (d:Addr) (o:Obj) (xs:List (List Int×Addr×Value)) (kvs:List (List Int×V)):It :=
 ⟨fun i H=>H d=some (.frz o (DfO P w d xs))/\KTF H kvs xs/\i < kvs.length,fun i H v H'=>H'=H/\∃ k,kvs[i]?=some (k,v),fun i H=>H d=some (.frz o (DfO P w d xs))/\KTF H kvs xs/\kvs.length<=i⟩
theorem aCX {P:At} {w:AV} {K:Af} {tg:Expr} {d it:Addr} {o:Obj} {xs:List (List Int×Addr×Value)} {kvs:List (List Int×V)} {de:Array Cs} {ep:Nat} (hd:o.data=.dict de ep) :
  Turn P w K tg (Itvf P w d o xs kvs) [it] it (fun i h=>jC h it d i de.size ep) where
 mem:=by simp
 obj:=fun i h st b hb=>by
  rw [Ae.mp hb]
  exact ⟨_,st,fun v e=>by cases e⟩
 keep:=fun i h h' st kp=>kp it (by simp) _ st
 item:=by
  intro X hP hw hK hc k pins s σ H E I hf st hg
  subst hP hw hK
  obtain ⟨hfz,hkt,hlt⟩:=hg
  obtain ⟨hgo,⟨o2,es2,ep2,e2,c2,d2,l2⟩,_⟩:=I.hok d _ hfz
  rw [hgo] at e2; cases e2
  rw [hd] at d2; cases d2
  obtain ⟨⟨ky,x⟩,hx⟩:∃ p,kvs[k]?=some p:=⟨kvs[k],Ax hlt⟩
  obtain ⟨q,u,hu,hq,ru⟩:=hkt.get hx
  have he:de[k]?=some (Cu (BI (Ch X.prog X.w)) (ky,q,u)):=by
   rw [<- BA,l2,AO,hu]; rfl
  refine aCN st hgo hd he fun g hit' sb=>⟨_,rfl,?_⟩
  have fi:=hf it (by simp)
  refine aCk hit' rfl rfl (by decide) ?_
  refine ⟨x,H,I.turned (t':=s.toks) (fun b o nb e=>by rw [sb.2 b nb]; exact e) fi.1 fi.2.1 fi.2.2.2.1 fi.2.2.2.2.1 fi.2.2.2.2.2,ru,⟨rfl,ky,hx⟩,hit',fun b hb=>?_⟩
  rw [Ae.mp hb]; exact fi.1
 done:=by
  intro X hP hw hK hc k pins s σ H E I hf st hg
  subst hP hw hK
  obtain ⟨hfz,hkt,hend⟩:=hg
  obtain ⟨hgo,⟨o2,es2,ep2,e2,c2,d2,l2⟩,_⟩:=I.hok d _ hfz
  rw [hgo] at e2; cases e2
  rw [hd] at d2; cases d2
  have he:de[k]?=none:=by
   rw [<- BA,l2,AO,Cg (by rw [<- Ds hkt]; exact hend)]; rfl
  refine aCO (I.ok.hd hc) st hgo hd he fun g eb=>⟨rfl,?_⟩
  have fi:=hf it (by simp)
  exact I.turned (t':=s.toks) (fun b o nb e=>eb b o nb e) fi.1 fi.2.1 fi.2.2.2.1 fi.2.2.2.2.1 fi.2.2.2.2.2
 self:=fun A i s Q E st h=>JS (d:=d) (i:=i) (n:=de.size) (ep:=ep) ⟨_,st,rfl,rfl⟩ h
section
variable {X:Cx}
noncomputable def aHg (P:At) (w:AV) (to:TE):TI:=fun σ H R=>to σ H fun x H1=>∃ (d:Addr) (xs:List (List Int×Addr×Value)) (kvs:List (List Int×V)),x=.ref d/\(d == BM)=false/\Rd H1 d (DfO P w d xs)/\∀ (o:Obj) (H2:Hp),H2 d=some (.frz o (DfO P w d xs))->(∀ c,c≠d->H2 c=H1 c)->R (Itvf P w d o xs kvs) H2
theorem aB5 {tg e:Expr} {te:TE} {apos cpos:Pos} (he:PE X e te)
  (hbase:EZ e "values" X.env (eval e X.env)=eval e X.env:=by rfl) (hline:(apos.endLine == cpos.line)=true:=by rfl) :
  PI X tg (.Call (.Attribute e "values" apos) [] [] cpos) (aHg X.prog X.w te):=by
 intro pins s σ H R I h
 refine FJ hbase hline (thn (he pins s σ H _ I h) fun v s1 ⟨y,H1,I1,r1,d,xs,kvs,ey,hsys,q,r⟩=>?_)
 subst ey
 cases r1
 obtain ⟨o,es1,ep,e1,ex,e2,e3⟩:∃ o es ep,s1.heap.get? d=some o/\o.ExactDict/\o.data=.dict es ep/\es.toList=xs.map (Cu (BI (Ch X.prog X.w))):=by
  rcases q with q | ⟨o,q⟩
  ·exact (I1.hok d _ q).1
  ·exact (I1.hok d _ q).2.1
 have hT:s1.TypeIs (.ref d) "dict":=⟨o,e1,ex.1⟩
 refine ⟨"dict","dict.values",Lx,FV,La,hT,fun a e=>by cases e; exact ⟨o,e1,ex.2.1⟩,?_⟩
 refine Dl rfl (GN ?_)
 refine LN FV hT Kw (JT _) (aB3 hsys) ⟨hT,?_⟩
 obtain ⟨H2,I2,fz,r⟩:∃ H2,Inv X pins σ H2 s1/\H2 d=some (.frz o (DfO X.prog X.w d xs))/\R (Itvf X.prog X.w d o xs kvs) H2:=by
  rcases q with q | ⟨o',q⟩
  ·exact ⟨_,I1.frozenE q e1,zC,r o _ zC fun c hc=>zH hc⟩
  ·have:o'=o:=by
    have:=(I1.hok d _ q).1
    rw [e1] at this; cases this; rfl
   subst this
   exact ⟨H1,I1,q,r _ _ q fun _ _=>rfl⟩
 have I3:Inv X pins σ H2 { s1 with heap:=s1.heap.push { cls:=.type "dict_values",data:=.fields #[.ref d] } }:=I2.kept (t':=s1.toks) fun b o e=>Ac _ e
 refine aCM (d:=d) (o:=o) (es:=es1) (ep:=ep) ⟨_,Ag _ rfl,rfl,rfl⟩ (Ac _ e1) e2 ?_
 refine ⟨_,_,_,_,H2,rfl,I3.kept (t':=s1.toks) fun b o e=>Ac _ e,aCX (o:=o) (xs:=xs) (kvs:=kvs) e2,Ag _ rfl,fun b hb=>?_,r⟩
 have e:b=(s1.heap.push { cls:=.type "dict_values",data:=.fields #[.ref d] }).objs.size:=by simpa using hb
 subst e
 exact I3.fpOk (Ak _) (I3.hok.fresh (Ak _))
end
theorem aAa {P:At} {w:AV} {d:Addr} {o:Obj} {xs:List (List Int×Addr×Value)} {kvs:List (List Int×V)} {g:TG} {tb:TS} {D:Ends} {σ:St} {H:Hp} (Pv:Nat->St->Hp->Prop) (h0:Pv 0 σ H) (hz:∀ i σ H,Pv i σ H->H d=some (.frz o (DfO P w d xs))/\KTF H kvs xs)
  (hs:∀ i k x σ H,kvs[i]?=some (k,x)->Pv i σ H->g x σ H fun σ2 H2=>tb { D with nx:=Pv (i + 1),ct:=Pv (i + 1),bk:=D.nx } σ2 H2) (hd:∀ σ H,Pv kvs.length σ H->D.nx σ H) :
  ∃ W:Nat->Nat->St->Hp->Prop,(∃ m,W 0 m σ H)/\∀ i m σ H,W i m σ H ->
   ((Itvf P w d o xs kvs).stop i H/\D.nx σ H)\/((Itvf P w d o xs kvs).go i H/\∃ N:St->Hp->Prop,(∀ σ' H',N σ' H'->∃ m',m' < m/\W (i + 1) m' σ' H')/\∀ x H',(Itvf P w d o xs kvs).yld i H x H'->g x σ H' fun σ2 H2=>tb { D with nx:=N,ct:=N,bk:=D.nx } σ2 H2):=by
 refine ⟨fun i m σ H=>m=kvs.length - i/\i<=kvs.length/\Pv i σ H,⟨kvs.length,by simp,AL _,h0⟩,?_⟩
 rintro i m σ H ⟨rfl,hi,p⟩
 obtain ⟨q1,q2⟩:=hz i σ H p
 by_cases hlt:i < kvs.length
 ·refine .inr ⟨⟨q1,q2,hlt⟩,Pv (i + 1),fun σ' H' p'=>⟨kvs.length - (i + 1),by lia,rfl,hlt,p'⟩,fun v H' y=>?_⟩
  obtain ⟨rfl,k,hx⟩:=y
  exact hs i k v σ _ hx p
 ·have e:i=kvs.length:=by lia
  subst e
  exact .inl ⟨⟨q1,q2,Ak _⟩,hd σ H p⟩
theorem aDH {α β:Type} {R:α->β->Prop} {ys xs:List α} (p:ys.Perm xs):∀ {ds:List β},AH R xs ds->∃ es,es.Perm ds/\AH R ys es:=by
 induction p with
 | nil=>intro ds h; exact ⟨ds,.refl _,h⟩
 | cons x q ih =>
  intro ds h
  cases h with
  | cons h1 h2 =>
   obtain ⟨es,p1,p2⟩:=ih h2
   exact ⟨_ :: es,p1.cons _,.cons h1 p2⟩
 | swap x y l =>
  intro ds h
  cases h with
  | cons h1 h2 =>
   cases h2 with
   | cons h3 h4=>exact ⟨_,.swap ..,.cons h3 (.cons h1 h4)⟩
 | trans _ _ i1 i2 =>
  intro ds h
  obtain ⟨es,p1,h1⟩:=i2 h
  obtain ⟨fs,p2,h2⟩:=i1 h1
  exact ⟨fs,p2.trans p1,h2⟩
noncomputable def RdI (H:Hp) (v:V) (k:List Int):Prop:=∃ t,v=.ref t/\Rd H t (.tup (k.map V.int))
theorem RdI.one {H:Hp} {v:V} {a b:List Int} (h:RdI H v a) (g:RdI H v b):a=b:=by
 obtain ⟨t,rfl,h⟩:=h
 obtain ⟨t',e,g⟩:=g
 cases e
 rcases h with h | ⟨o,h⟩ <;> rcases g with g | ⟨o',g⟩ <;> rw [h] at g
 ·exact yq (by injection g with g; injection g)
 ·cases g
 ·cases g
 ·exact yq (by injection g with g; injection g with g1 g2; injection g2)
open Classical in
noncomputable def keyR (H:Hp) (v:V):List Int:=if h:∃ k,RdI H v k then h.choose else []
theorem jv {H:Hp} {v:V} {k:List Int} (h:RdI H v k):keyR H v=k:=by
 unfold keyR
 have e:∃ k,RdI H v k:=⟨k,h⟩
 rw [dif_pos e]
 exact e.choose_spec.one h
section
variable {X:Cx}
theorem aDI (hc:X.calm=true):qW X (.builtin "sorted") (fun xs H Q=>∃ (d:Addr) (kvs:List (List Int×V)),xs=[.ref d]/\Tf X.prog X.w H d kvs/\kvs.length < 64/\(∀ p∈kvs,p.1≠[]) /\
  ∀ (p:Addr) (ys:List V) (kv2:List (List Int×V)) (H':Hp),Same H H'->H' p=some (.lst ys)->kv2.Perm kvs->AH (fun (y:V) (kv:List Int×V)=>RdI H y kv.1) ys kv2->kv2.Pairwise (fun a b=>lx b.1 a.1=false)->Q (.ref p) H'):=by
 intro pins s σ H xs us Q I r h
 obtain ⟨d,kvs,rfl,tf,hl,hne,q⟩:=h
 obtain ⟨u,rfl,rx⟩:=jj r
 cases rx
 have szl:=Bb
 obtain ⟨hsys,_,ys,rel,o,es,ep,ho,hex,hd,hk,_,_⟩:=aCU I tf
 have lk:kvs.length=ys.length:=Ds rel
 have esz:es.size=ys.length:=JD hk
 have ek:es.toList.map (·.key)=(ys.map (·.2.1)).map Value.ref:=by rw [hk,LI,LI]; rfl
 have pb:=aHe rel
 refine Eh IC Hn Ho (Ju _) ?_
 unfold Builtin.«sorted»
 refine Aa (m:=JH "sorted" 1 1 _) (Ab ?_)
 refine Aa (aDG (A:=X.A.in1) (by simp [I.ok.hd hc]) hsys ho hex.1 hd (by lia) fun g1 tk k1 z1=>?_)
 rw [ek]
 generalize hbs:ys.map (·.2.1)=bs at pb
 have bl:bs.length < 64:=by rw [pb.length]; exact hl
 have vl:(bs.map Value.ref).length=bs.length:=Ah ..
 have hR:∀ b∈bs,∃ kv∈kvs,RdI H (.ref b) kv.1:=fun b hb=>by
  obtain ⟨i,hi⟩:=CM hb
  obtain ⟨kv,hkv,rd⟩:=jX pb hi
  exact ⟨kv,Au hkv,b,rfl,rd⟩
 have hT:∀ b∈bs,TupI s.heap (.ref b) (keyR H (.ref b))/\keyR H (.ref b)≠[]:=fun b hb=>by
  obtain ⟨kv,hm,rd⟩:=hR b hb
  rw [jv rd]
  obtain ⟨t,e,rd⟩:=rd
  cases e
  obtain ⟨us',r',p',_⟩:=I.tuple (a:=b) (xs:=kv.1.map V.int) (.inl rd)
  exact ⟨⟨b,us',rfl,p',yb r'⟩,hne kv hm⟩
 refine Aa (DF ?_ (by lia))
 have gL:(g1.push (Bg "list" (bs.map Value.ref).toArray 0)).get? g1.objs.size=some (Bg "list" (bs.map Value.ref).toArray 0):=Ag _ rfl
 have kp:∀ b o,s.heap.get? b=some o->(g1.push (Bg "list" (bs.map Value.ref).toArray 0)).get? b=some o:=fun b o e=>Ac _ (k1 b o e)
 obtain ⟨f,ef⟩:∃ f:Value->List Int,f=fun v=>match v with | .ref t=>keyR H (.ref t) | _=>[]:=⟨_,rfl⟩
 have hf:∀ v∈bs.map Value.ref,TupI (g1.push (Bg "list" (bs.map Value.ref).toArray 0)) v (f v)/\f v≠[]:=fun v hv=>by
  obtain ⟨b,hb,rfl⟩:=Bk.mp hv
  rw [ef]
  obtain ⟨⟨a',us',e1,⟨o',g1',g2',g3'⟩,i'⟩,n'⟩:=hT b hb
  exact ⟨⟨a',us',e1,⟨o',kp _ _ g1',g2',g3'⟩,i'⟩,n'⟩
 refine Aa (Bw (AN Gi ⟨_,gL,rfl⟩ FP (jQ (f:=f) gL hf (by lia) fun arr hp up=>⟨_,rfl,?_⟩) (HP _)))
 have rv:=aB4 bs
 have pr:AH (fun (t:Addr) (x:V)=>t∈bs/\x=.ref t) bs (bs.map V.ref):=by
  have:∀ l:List Addr,(∀ t∈l,t∈bs)->AH (fun (t:Addr) (x:V)=>t∈bs/\x=.ref t) l (l.map V.ref):=by
   intro l
   induction l with
   | nil=>intro _; exact .nil
   | cons a b ih=>intro h; exact .cons ⟨h a (Am ..),rfl⟩ (ih fun t ht=>h t (Al _ ht))
  exact this bs fun t ht=>ht
 obtain ⟨z1',z2,z3⟩:=zip3 pr rv
 have hTT:∀ p∈((bs.map Value.ref).zip (bs.map Value.ref)).zip (bs.map V.ref),RelV p.2 p.1.2/\TupI (g1.push (Bg "list" (bs.map Value.ref).toArray 0)) p.1.1 (keyR H p.2):=fun p hp=>by
  obtain ⟨a1,t,e,hm,ex⟩:=z3 p hp
  rw [e,ex]
  refine ⟨ex ▸ a1,?_⟩
  have:=(hf (.ref t) (Kv hm)).1
  rw [ef] at this
  exact this
 obtain ⟨zs,py,vy,wy⟩:=jN (h:=g1.push (Bg "list" (bs.map Value.ref).toArray 0)) (T:=((bs.map Value.ref).zip (bs.map Value.ref)).zip (bs.map V.ref)) (a:=arr) (key:=keyR H) (by rw [z1']; exact hp) hTT up
 rw [z2] at py
 obtain ⟨e,at1⟩:=KU (out:=arr.map (·.2)) gL
 have old:∀ b o,s.heap.get? b=some o->(Ig (g1.push (Bg "list" (bs.map Value.ref).toArray 0)) g1.objs.size (bs.map Value.ref) (arr.map (·.2))).get? b=some o:=fun b o hb=>by
  have hlt:b < g1.objs.size:=Ap (k1 b o hb)
  rw [JZ (AC hlt) (by rw [Gb]; exact Cn hlt),Fa _ _ _ (AC hlt)]
  exact k1 b o hb
 have hp0:s.heap.objs.size<=g1.objs.size:=EL z1
 have hf0:H g1.objs.size=none:=I.hok.fresh hp0
 have lzs:zs.length=bs.length:=by have:=py.length_eq; rw [Ah] at this; exact this
 have pb2:AH (fun (y:V) (kv:List Int×V)=>RdI H y kv.1) (bs.map V.ref) kvs:=by
  have:∀ {l:List Addr} {m:List (List Int×V)},AH (fun (b:Addr) (kv:List Int×V)=>Rd H b (.tup (kv.1.map V.int))) l m->AH (fun (y:V) (kv:List Int×V)=>RdI H y kv.1) (l.map V.ref) m:=by
   intro l m h
   induction h with
   | nil=>exact .nil
   | cons h t ih=>exact .cons ⟨_,rfl,h⟩ ih
  exact this pb
 obtain ⟨kv2,p2,pr2⟩:=aDH py pb2
 have w2:kv2.Pairwise (fun a b=>lx b.1 a.1=false):=by
  have:∀ {l:List V} {m:List (List Int×V)},AH (fun (y:V) (kv:List Int×V)=>RdI H y kv.1) l m->l.Pairwise (fun a b=>lx (keyR H b) (keyR H a)=false)->m.Pairwise (fun a b=>lx b.1 a.1=false):=by
   intro l m h
   induction h with
   | nil=>intro _; exact BJ
   | @cons y kv l' m' h t ih =>
    intro o
    obtain ⟨o1,o2⟩:=AG.mp o
    refine AG.mpr ⟨fun b hb=>?_,ih o2⟩
    obtain ⟨j,hj⟩:=CM hb
    obtain ⟨y',hy',r'⟩:=aDF t hj
    have:=o1 y' (Au hy')
    rw [jv r',jv h] at this
    exact this
  exact this pr2 wy
 refine Ab ⟨_,rfl,.ref g1.objs.size,upd H g1.objs.size (.lst zs),I.laid (t':=tk) old hp0 ⟨by rw [lzs,szl]; lia,arr.toList.map (·.2),e,vy,?_⟩,rfl,q _ zs kv2 _ (fun b u eb=>by rw [zH (zD eb hf0)]; exact eb) zC p2 pr2 w2⟩
 rw [at1]
 show some (Bg "list" _ e)=some (Bg "list" _ e)
 congr 2
 apply Fo.mp
 simp
theorem aKr (hA:X.A.units + 60 < cLine):OpR X (DQ .In) (fun x y H Q=>∃ (p:Addr) (xs:List V) (r:List Int) (rs:List (List Int)),y=.ref p/\H p=some (.lst xs)/\TupV H x r/\AH (TupV H) xs rs/\Q (.bl (decide (r∈rs))) H):=by
 intro pins s σ H x y v u Q I rx ry h
 obtain ⟨p,xs,r,rs,rfl,hp,hx,hpr,q⟩:=h
 cases ry
 obtain ⟨its,rv,pl,hz⟩:=I.list (SqL.of hp)
 refine Mi (fInR H r) pl.isList (fun w hw=>aIJ I hA hx rx hpr rv w (by simpa using hw)) ⟨.bl _,H,I,rfl,?_⟩
 rw [show its.toArray.any (fInR H r)=its.any (fInR H r) by simp,aGW hpr rv]
 exact q
end
theorem aCY {K:Af} {p q:Addr} {xs ys:List V} {H1:Hp} {D:Addr} {σ0:St} {g:TG} {tt:TT} {te:TE} {R:Hp->Prop}
  (Pv:Nat->List V->St->Hp->Prop) (hl:∀ i zs σ H2,Pv i zs σ H2->SqL K H2 p xs/\SqL K H2 q ys) (hlen:xs.length=ys.length) (h0:Pv 0 [] σ0 (upd H1 D (.lst [])))
  (hs:∀ i T x y zs σ H2,xs[i]?=some x->ys[i]?=some y->zs.length<=i->Pv i zs σ H2->H2 D=some (.lst zs)->H2 T=none->g (.ref T) σ (upd H2 T (.tup [x,y])) fun σ3 H3=>tt σ3 H3 fun b H4=>if b=true then te σ3 H4 fun y H5=>∃ zs,H5 D=some (.lst zs)/\zs.length < sizeLine/\qz Pv D i σ3 (upd H5 D (.lst (zs++[y]))) else qz Pv D i σ3 H4)
  (hd:∀ zs σ H2,Pv xs.length zs σ H2->H2 D=some (.lst zs)->R H2) :
  ∃ W:Nat->Nat->St->Hp->Prop,(∃ m,W 0 m σ0 (upd H1 D (.lst [])))/\∀ i m σ2 H2,W i m σ2 H2 ->
  ((ItzL K p q).stop i H2/\R H2)\/((ItzL K p q).go i H2/\∃ N:St->Hp->Prop,(∀ σ' H',N σ' H'->∃ m',m' < m/\W (i + 1) m' σ' H')/\∀ x H',(ItzL K p q).yld i H2 x H'->g x σ2 H' fun σ3 H3=>tt σ3 H3 fun b H4 =>
   if b=true then te σ3 H4 fun y H5=>∃ xs,H5 D=some (.lst xs)/\xs.length < sizeLine/\N σ3 (upd H5 D (.lst (xs++[y]))) else N σ3 H4):=by
 refine ⟨fun i m σ H'=>m=xs.length - i/\i<=xs.length/\∃ zs,zs.length<=i/\Pv i zs σ H'/\H' D=some (.lst zs),⟨xs.length,by simp,AL _,[],Ak _,h0,zC⟩,?_⟩
 rintro i m σ2 H2 ⟨rfl,hi,zs,hy,pv,e⟩
 obtain ⟨q1,q2⟩:=hl i zs σ2 H2 pv
 by_cases hlt:i < xs.length
 ·refine .inr ⟨⟨xs,ys,xs[i],ys[i],q1,q2,by simp [hlt],by simp [hlen ▸ hlt]⟩,qz Pv D i,fun σ' H' ⟨zs',l',p',e'⟩=>⟨xs.length - (i + 1),by lia,rfl,hlt,zs',l',p',e'⟩,fun v H' y=>?_⟩
  obtain ⟨T,x,y,rfl,hT,rfl,hxy⟩:=y
  obtain ⟨e1,e2⟩:=hxy xs ys q1 q2
  exact hs i T x y zs σ2 H2 e1 e2 hy pv e hT
 ·have ei:i=xs.length:=by lia
  subst ei
  exact .inl ⟨⟨xs,ys,q1,q2,.inl (Ak _)⟩,hd zs σ2 H2 pv e⟩
theorem aB6 {X:Cx} (hc:X.calm=true):qW X (.builtin "max") (fun xs H Q=>∃ (p:Addr) (ns:List Int),xs=[.ref p]/\SqL X.K H p (ns.map V.int)/\0 < ns.length/\∀ m:Int,m∈ns->(∀ y∈ns,y<=m)->Q (.int m) H):=by
 intro pins s σ H xs us Q I r h
 obtain ⟨p,ns,rfl,hS,hn,q⟩:=h
 obtain ⟨u,rfl,rx⟩:=jj r
 obtain rfl:u=Value.ref p:=rx
 obtain ⟨its,rv,pl,hz⟩:=I.list hS
 have hl:=pl.isList
 have hlt:p < s.heap.objs.size:=by obtain ⟨_,e,_⟩:=hl; exact Ap e
 have hlen:=rv.length
 rw [Ah] at hlen
 have hval:∀ i v,its[i]?=some v->∃ t,v=DP (ns.getD i 0) t:=fun i v hv'=>by
  have hi:i < (ns.map V.int).length:=by rw [rv.length]; exact (Aq.mp hv').1
  obtain ⟨u,e1,r1⟩:=rv.get (i:=i) (x:=.int (ns.getD i 0)) (by
   rw [Ah] at hi
   rw [AO,BR,Ax hi]; rfl)
  rw [hv'] at e1
  cases e1
  exact r1
 refine call_max_walk (HW hl ?_)
 refine ⟨_,_,_,_,_,_,_,rfl,NH (A:=X.A.in1) (I.ok.hd hc) s.heap.objs.size p (AC hlt) its.toArray,⟨⟨_,Ag _ rfl,rfl,rfl⟩,hl.push _⟩,fun b hb=>?_,by show 0 < its.toArray.size; rw [Ao]; lia,Nc (fun i=>ns.getD i 0) (fun i v hv=>hval i v (by simpa using hv)),fun v h' tk hP hk=>?_⟩
 ·show b < (s.heap.push _).objs.size
  rw [Bo]
  rcases Aj.mp hb with rfl | hb
  ·exact DC _
  ·rcases Aj.mp hb with rfl | hb
   ·exact Cn hlt
   ·cases hb
 ·obtain ⟨b1,b2⟩:=aDD (fun i=>ns.getD i 0) (its.toArray.size - 1)
  have hP':its[Gg (fun i j=>decide (ns.getD i 0 > ns.getD j 0)) (its.length - 1)]?=some v:=by rw [<- hP,Ao,CY]
  obtain ⟨t,rfl⟩:=hval _ v hP'
  rw [Ao] at b1 b2
  refine ⟨.int _,H,I.kept fun b o e=>hk b o (fun z=>?_) (Ac _ e),⟨t,rfl⟩,q _ ?_ fun y hy=>?_⟩
  ·exact absurd (Ap e) (by rw [Ae.mp z]; exact BC _)
  ·rw [BR,Ax (by lia)]
   exact Fp _
  ·obtain ⟨i,hi⟩:=CM hy
   have hil:=(Aq.mp hi).1
   have:=b2 i (by lia)
   have e:ns.getD i 0=y:=by rw [BR,hi]; rfl
   rw [<- e]; exact this
section
variable {prog:At} {w:AV} {A:AY} {E:Value->Ad->Prop} {s:Ad}
end
end L2
namespace L2
open PySem PySem.Spec PyProof.Rows PySem.W
section
variable {X:Cx}
end
end L2
namespace Law
open PySem L2
inductive IsForm:D->Prop
 | num {i:Int} (h0:1<=i) (h1:i<=1000000):IsForm (.int i)
 | grp {k:Str} {m0:D} {more off:List D} (hk:k="sum"\/k="product") (h0:IsForm m0) (h1:∀ x∈more,IsForm x) (h2:∀ x∈off,IsForm x):IsForm (.tup [.str k,.tup (m0 :: more),.tup off])
mutual
noncomputable def sz:D->Nat
 | .tup l=>1 + szs l
 | _=>1
noncomputable def szs:List D->Nat
 | []=>0
 | d :: r=>sz d + 1 + szs r
end
theorem aGY (d:D):1<=sz d:=by cases d <;> unfold sz <;> lia
noncomputable def rkK (k:Str):Int:=if k="sum" then 2 else 3
mutual
noncomputable def kD:D->List Int
 | .int i=>[1,i]
 | .tup l=>kG l
 | _=>[]
noncomputable def kG:List D->List Int
 | .str k :: r=>rkK k :: kR r
 | _=>[]
noncomputable def kR:List D->List Int
 | []=>[]
 | d :: r=>kRow d++0 :: kR r
noncomputable def kRow:D->List Int
 | .tup l=>kS l
 | _=>[]
noncomputable def kS:List D->List Int
 | []=>[]
 | d :: r=>kD d++kS r
end
theorem aAb (i:Int):kD (.int i)=[1,i]:=by rw [kD]
theorem jY (k:Str) (more off:List D):kD (.tup [.str k,.tup more,.tup off])=rkK k :: (kS more++0 :: (kS off++[0])):=by
 rw [kD,kG,kR,kR,kR,kRow,kRow]
theorem jw (d:D) (r:List D):kS (d :: r)=kD d++kS r:=by rw [kS]
theorem aE4:kS []=[]:=by rw [kS]
theorem aBg {d:D} (h:IsForm d):∃ a r,kD d=a :: r/\0 < a:=by
 cases h with
 | num h0 h1=>rw [aAb]; exact ⟨1,_,rfl,by decide⟩
 | @grp k m0 more off hk _ _ _=>rw [jY]; exact ⟨_,_,rfl,by unfold rkK; split <;> decide⟩
noncomputable def sl (a b:List Int):Prop:=∃ (p:List Int) (u v:Int) (x y:List Int),a=p++u :: x/\b=p++v :: y/\u < v
theorem sl.app {a b:List Int} (h:sl a b) (x y:List Int):sl (a++x) (b++y):=by
 obtain ⟨p,u,v,x1,y1,rfl,rfl,l⟩:=h
 exact ⟨p,u,v,x1++x,y1++y,by simp,by simp,l⟩
theorem sl.pre {a b:List Int} (h:sl a b) (p:List Int):sl (p++a) (p++b):=by
 obtain ⟨p1,u,v,x1,y1,rfl,rfl,l⟩:=h
 exact ⟨p++p1,u,v,x1,y1,by simp,by simp,l⟩
theorem sl.cons {a b:List Int} (h:sl a b) (c:Int):sl (c :: a) (c :: b):=h.pre [c]
theorem qg {a b:Int} (h:a < b) (x y:List Int):sl (a :: x) (b :: y):=⟨[],a,b,x,y,rfl,rfl,h⟩
theorem sl.lx {a b:List Int} (h:sl a b):lx a b=true:=by
 obtain ⟨p,u,v,x,y,rfl,rfl,l⟩:=h
 induction p with
 | nil=>show L2.lx (u :: x) (v :: y)=true; rw [qY,if_neg (by lia)]; exact decide_eq_true l
 | cons a p ih=>show L2.lx (a :: (p++u :: x)) (a :: (p++v :: y))=true; rw [qY,if_pos rfl]; exact ih
theorem aKs {a b:List Int} (h:L2.lx a b=true):L2.lx b a=false:=by
 cases e:L2.lx b a with
 | false=>rfl
 | true =>
  have:=aAC _ _ _ h e
  rw [qZ] at this
  cases this
noncomputable def Tri (d e:D):Prop:=d=e\/sl (kD d) (kD e)\/sl (kD e) (kD d)
theorem aBh:∀ {a b:List D},(∀ x∈a,IsForm x)->(∀ y∈b,IsForm y)->(∀ x∈a,∀ y∈b,Tri x y)->∀ (s t:List Int),a=b\/sl (kS a++0 :: s) (kS b++0 :: t)\/sl (kS b++0 :: t) (kS a++0 :: s)
 | [],[],_,_,_,s,t=>.inl rfl
 | [],y :: r,_,hb,_,s,t=>by
  obtain ⟨c,z,e,hc⟩:=aBg (hb y (Am ..))
  rw [aE4,jw,e]
  exact .inr (.inl (qg hc _ _))
 | x :: r,[],ha,_,_,s,t=>by
  obtain ⟨c,z,e,hc⟩:=aBg (ha x (Am ..))
  rw [aE4,jw,e]
  exact .inr (.inr (qg hc _ _))
 | x :: r,y :: q,ha,hb,ht,s,t=>by
  rw [jw,jw,By,By]
  rcases ht x (Am ..) y (Am ..) with rfl | h | h
  ·rcases aBh (fun z hz=>ha z (Al _ hz)) (fun z hz=>hb z (Al _ hz)) (fun z hz w hw=>ht z (Al _ hz) w (Al _ hw)) s t with rfl | h | h
   ·exact .inl rfl
   ·exact .inr (.inl (h.pre _))
   ·exact .inr (.inr (h.pre _))
  ·exact .inr (.inl (h.app _ _))
  ·exact .inr (.inr (h.app _ _))
theorem tri {d:D} (hd:IsForm d):∀ {e:D},IsForm e->Tri d e:=by
 induction hd with
 | @num i h0 h1 =>
  intro e he
  cases he with
  | @num j _ _ =>
   unfold Tri
   rw [aAb,aAb]
   rcases Lv i j with h | h | h
   ·exact .inr (.inl ((qg h [] []).cons 1))
   ·exact .inl (by rw [h])
   ·exact .inr (.inr ((qg h [] []).cons 1))
  | @grp k m0 more off hk _ _ _ =>
   refine .inr (.inl ?_)
   rw [aAb,jY]
   exact qg (by unfold rkK; split <;> decide) _ _
 | @grp k m0 more off hk h0 h1 h2 i0 i1 i2 =>
  intro e he
  cases he with
  | @num j _ _ =>
   refine .inr (.inr ?_)
   rw [aAb,jY]
   exact qg (by unfold rkK; split <;> decide) _ _
  | @grp k' m0' more' off' hk' h0' h1' h2' =>
   have f1:∀ x∈m0 :: more,IsForm x:=fun x hx=>by rcases Aj.mp hx with rfl | hx; exact h0; exact h1 x hx
   have f1':∀ x∈m0' :: more',IsForm x:=fun x hx=>by rcases Aj.mp hx with rfl | hx; exact h0'; exact h1' x hx
   have t1:∀ x∈m0 :: more,∀ y∈m0' :: more',Tri x y:=fun x hx y hy=>by
    rcases Aj.mp hx with rfl | hx
    ·exact i0 (f1' y hy)
    ·exact i1 x hx (f1' y hy)
   by_cases ek:k=k'
   ·subst ek
    unfold Tri
    rw [jY,jY]
    rcases aBh f1 f1' t1 (kS off++[0]) (kS off'++[0]) with e1 | h | h
    ·rcases aBh h2 h2' (fun x hx y hy=>i2 x hx (h2' y hy)) [] [] with e2 | h | h
     ·exact .inl (by rw [e1,e2])
     ·rw [e1]; exact .inr (.inl (((h.cons 0).pre _).cons _))
     ·rw [e1]; exact .inr (.inr (((h.cons 0).pre _).cons _))
    ·exact .inr (.inl (h.cons _))
    ·exact .inr (.inr (h.cons _))
   ·unfold Tri
    rw [jY,jY]
    rcases hk with rfl | rfl <;> rcases hk' with rfl | rfl
    ·exact absurd rfl ek
    ·exact .inr (.inl (qg (by decide) _ _))
    ·exact .inr (.inr (qg (by decide) _ _))
    ·exact absurd rfl ek
theorem aIK {d e:D} (hd:IsForm d) (he:IsForm e) (h:kD d=kD e):d=e:=by
 rcases tri hd he with r | r | r
 ·exact r
 ·have:=r.lx; rw [h,qZ] at this; cases this
 ·have:=r.lx; rw [h,qZ] at this; cases this
noncomputable def Le (a b:D):Prop:=L2.lx (kD b) (kD a)=false
noncomputable def Ord (l:List D):Prop:=l.Pairwise Le
theorem aB7:∀ {a b:List D},(∀ x∈a,IsForm x)->a.Perm b->Ord a->Ord b->a=b
 | [],b,_,p,_,_=>(Nf.mp p).symm
 | x :: r,b,hf,p,oa,ob=>by
  cases b with
  | nil=>exact absurd (p.length_eq) (by simp)
  | cons y q =>
   have hfb:∀ z∈y :: q,IsForm z:=fun z hz=>hf z (p.mem_iff.mpr hz)
   obtain ⟨a1,a2⟩:=AG.mp oa
   obtain ⟨b1,b2⟩:=AG.mp ob
   have e:x=y:=by
    by_cases c:x=y
    ·exact c
    have m1:x∈q:=by
     rcases Aj.mp (p.mem_iff.mp (Am ..)) with h | h
     ·exact absurd h c
     ·exact h
    have m2:y∈r:=by
     rcases Aj.mp (p.mem_iff.mpr (Am ..)) with h | h
     ·exact absurd h.symm c
     ·exact h
    exact aIK (hf x (Am ..)) (hf y (Al _ m2)) (aAB _ _ (b1 x m1) (a1 y m2))
   subst e
   rw [aB7 (fun z hz=>hf z (Al _ hz)) (Lb p) a2 b2]
theorem aB8:∀ {l:List D} {x:D},Ord l->Ord (l.take (l.countP fun y=>!L2.lx (kD x) (kD y))++x :: l.drop (l.countP fun y=>!L2.lx (kD x) (kD y)))
 | [],x,_=>DG _ _
 | y :: r,x,o=>by
  obtain ⟨o1,o2⟩:=AG.mp o
  have ih:=aB8 (x:=x) o2
  rw [List.countP_cons]
  cases e:L2.lx (kD x) (kD y) with
  | false =>
   rw [if_pos (by rfl),List.take_succ_cons,List.drop_succ_cons,Fs]
   refine AG.mpr ⟨fun z hz=>?_,ih⟩
   have hz':z=x\/z∈r:=by
    rcases Bj.mp hz with h | h
    ·exact .inr (CN h)
    ·rcases Aj.mp h with h | h
     ·exact .inl h
     ·exact .inr (List.mem_of_mem_drop h)
   rcases hz' with rfl | h
   ·exact e
   ·exact o1 z h
  | true =>
   have none:(r.countP fun y=>!L2.lx (kD x) (kD y))=0:=List.countP_eq_zero.mpr fun z hz=>by
    have h1:=o1 z hz
    cases e2:L2.lx (kD x) (kD z) with
    | true=>decide
    | false =>
     rcases aFU _ (kD z) _ e with h | h
     ·rw [e2] at h; cases h
     ·have h1':L2.lx (kD z) (kD y)=false:=h1
      rw [h1'] at h; cases h
   rw [none,if_neg (by decide)]
   show Ord (x :: (y :: r))
   refine AG.mpr ⟨fun z hz=>?_,o⟩
   rcases Aj.mp hz with rfl | hz
   ·exact aKs e
   ·show L2.lx (kD z) (kD x)=false
    have h1:L2.lx (kD z) (kD y)=false:=o1 z hz
    cases e2:L2.lx (kD z) (kD x) with
    | false=>rfl
    | true=>have:=aAC _ _ _ e2 e; rw [h1] at this; cases this
noncomputable def insD (l:List D) (x:D):List D:=l.take (l.countP fun y=>!L2.lx (kD x) (kD y))++x :: l.drop (l.countP fun y=>!L2.lx (kD x) (kD y))
theorem aGZ (l:List D) (x:D):(insD l x).Perm (l++[x]):=by
 unfold insD
 refine List.perm_middle.trans ?_
 rw [Ee]
 exact List.perm_append_comm (l₁:=[x])
noncomputable def srtD (l:List D):List D:=l.foldl insD []
theorem aBi:∀ (l acc:List D),Ord acc->Ord (l.foldl insD acc)/\(l.foldl insD acc).Perm (acc++l)
 | [],acc,o=>⟨o,by rw [AM]; exact .refl _⟩
 | x :: r,acc,o=>by
  obtain ⟨a,b⟩:=aBi r (insD acc x) (aB8 o)
  refine ⟨a,b.trans ?_⟩
  have:=(aGZ acc x).append_right r
  rw [By] at this
  exact this
theorem aHh (l:List D):Ord (srtD l):=(aBi l [] BJ).1
theorem qJ (l:List D):(srtD l).Perm l:=by have:=(aBi l [] BJ).2; rwa [List.nil_append] at this
theorem aJM {l m:List D} (hf:∀ x∈m,IsForm x) (p:l.Perm m) (o:Ord l):l=srtD m :=
 aB7 (fun x hx=>hf x (p.mem_iff.mp hx)) (p.trans (qJ m).symm) o (aHh m)
noncomputable def knd (w:Str):Str:=if w="plus"\/w="less" then "sum" else "product"
noncomputable def trn (w:Str):Bool:=decide (w="less"\/w="share")
theorem aKt (w:Str):knd w="sum"\/knd w="product":=by unfold knd; split; exact .inl rfl; exact .inr rfl
noncomputable def pf (k:Str):D->List D×List D
 | .tup [.str k',.tup m,.tup o]=>if k'=k then (m,o) else ([.tup [.str k',.tup m,.tup o]],[])
 | d=>([d],[])
noncomputable def swp (b:Bool) (p:List D×List D):List D×List D:=if b then (p.2,p.1) else p
noncomputable def fP:Way->D
 | .num n=>.int n
 | .op w a b=>.tup [.str (knd w),.tup (srtD ((pf (knd w) (fP a)).1++(swp (trn w) (pf (knd w) (fP b))).1)),.tup (srtD ((pf (knd w) (fP a)).2++(swp (trn w) (pf (knd w) (fP b))).2))]
theorem aKu (k:Str) (i:Int):pf k (.int i)=([.int i],[]):=rfl
theorem aE5 (k k':Str) (m o:List D):pf k (.tup [.str k',.tup m,.tup o])=if k'=k then (m,o) else ([.tup [.str k',.tup m,.tup o]],[]):=rfl
theorem aDJ {k:Str} {d:D} (h:IsForm d):(∃ m0 r,(pf k d).1=m0 :: r)/\(∀ x∈(pf k d).1,IsForm x)/\∀ x∈(pf k d).2,IsForm x:=by
 have one:∀ x∈[d],IsForm x:=fun x hx=>by rw [Ae.mp hx]; exact h
 cases h with
 | num h0 h1=>exact ⟨⟨_,_,rfl⟩,one,fun x hx=>by cases hx⟩
 | @grp k' m0 more off hk g0 g1 g2 =>
  rw [aE5]
  split
  ·refine ⟨⟨_,_,rfl⟩,fun x hx=>?_,g2⟩
   rcases Aj.mp hx with rfl | hx
   ·exact g0
   ·exact g1 x hx
  ·exact ⟨⟨_,_,rfl⟩,one,fun x hx=>by cases hx⟩
theorem aHi {l:List D} {m0:D} {r:List D} (h:l=m0 :: r):∃ x t,srtD l=x :: t:=by
 cases e:srtD l with
 | nil=>have:=(qJ l).length_eq; rw [e,h] at this; cases this
 | cons x t=>exact ⟨x,t,rfl⟩
theorem aCZ {b:Bool} {k:Str} {d:D} (h:IsForm d):(∀ x∈(swp b (pf k d)).1,IsForm x)/\∀ x∈(swp b (pf k d)).2,IsForm x:=by
 obtain ⟨_,h1,h2⟩:=aDJ (k:=k) h
 cases b
 ·exact ⟨h1,h2⟩
 ·exact ⟨h2,h1⟩
theorem yX:∀ {x:Way},x.ok 1000000->IsForm (fP x):=by
 intro x
 induction x with
 | num n=>intro h; exact .num h.1 h.2
 | op w a b ia ib =>
  intro h
  obtain ⟨_,ha,hb⟩:=h
  have fa:=ia ha
  have fb:=ib hb
  obtain ⟨⟨m0,r,e⟩,a1,a2⟩:=aDJ (k:=knd w) fa
  obtain ⟨b1,b2⟩:=aCZ (b:=trn w) (k:=knd w) fb
  have f1:∀ x∈srtD ((pf (knd w) (fP a)).1++(swp (trn w) (pf (knd w) (fP b))).1),IsForm x:=fun x hx=>by
   rcases Bj.mp ((qJ _).mem_iff.mp hx) with h | h
   ·exact a1 x h
   ·exact b1 x h
  have f2:∀ x∈srtD ((pf (knd w) (fP a)).2++(swp (trn w) (pf (knd w) (fP b))).2),IsForm x:=fun x hx=>by
   rcases Bj.mp ((qJ _).mem_iff.mp hx) with h | h
   ·exact a2 x h
   ·exact b2 x h
  show IsForm (.tup [.str (knd w),.tup _,.tup _])
  obtain ⟨x,t,es⟩:=aHi (l:=(pf (knd w) (fP a)).1++(swp (trn w) (pf (knd w) (fP b))).1) (m0:=m0) (r:=r++(swp (trn w) (pf (knd w) (fP b))).1) (by rw [e]; rfl)
  rw [es] at f1 ⊢
  exact .grp (aKt w) (f1 x (Am ..)) (fun y hy=>f1 y (Al _ hy)) f2
theorem Dats.nilI (H:Hp):Dats H [] []:=by unfold Dats; rfl
theorem Dats.consI {H:Hp} {d:D} {ds:List D} {x:V} {xs:List V} (a:Dat H d x) (b:Dats H ds xs):Dats H (d :: ds) (x :: xs):=by unfold Dats; exact ⟨x,xs,rfl,a,b⟩
theorem Dats.consE {H:Hp} {d:D} {ds:List D} {xs:List V} (h:Dats H (d :: ds) xs):∃ x r,xs=x :: r/\Dat H d x/\Dats H ds r:=by unfold Dats at h; exact h
theorem Dats.nilE {H:Hp} {xs:List V} (h:Dats H [] xs):xs=[]:=by unfold Dats at h; exact h
theorem Dats.app {H:Hp}:∀ {a b:List D} {xs ys:List V},Dats H a xs->Dats H b ys->Dats H (a++b) (xs++ys)
 | [],b,xs,ys,h,h2=>by rw [h.nilE]; exact h2
 | d :: r,b,xs,ys,h,h2=>by
  obtain ⟨x,t,rfl,h1,h3⟩:=h.consE
  exact .consI h1 (Dats.app h3 h2)
theorem Dat.tupI {H:Hp} {ds:List D} {p:Addr} {xs:List V} (h:H p=some (.tup xs)) (d:Dats H ds xs):Dat H (.tup ds) (.ref p):=by unfold Dat; exact ⟨p,xs,rfl,h,d⟩
theorem Dat.tupE {H:Hp} {ds:List D} {v:V} (h:Dat H (.tup ds) v):∃ p xs,v=.ref p/\H p=some (.tup xs)/\Dats H ds xs:=by unfold Dat at h; exact h
theorem Dat.strI {H:Hp} (x:Str):Dat H (.str x) (.str x):=by unfold Dat; rfl
theorem Dat.strE {H:Hp} {x:Str} {v:V} (h:Dat H (.str x) v):v=.str x:=by unfold Dat at h; exact h
theorem Dat.intI {H:Hp} (i:Int):Dat H (.int i) (.int i):=by unfold Dat; rfl
theorem Dat.intE {H:Hp} {i:Int} {v:V} (h:Dat H (.int i) v):v=.int i:=by unfold Dat at h; exact h
theorem aAc {H:Hp} {k:Str} {m0:D} {more off:List D} {v:V} (h:Dat H (.tup [.str k,.tup (m0 :: more),.tup off]) v):∃ (p pm po:Addr) (x0:V) (xm xo:List V),v=.ref p/\H p=some (.tup [.str k,.ref pm,.ref po])/\H pm=some (.tup (x0 :: xm))/\H po=some (.tup xo)/\Dat H m0 x0/\Dats H more xm/\Dats H off xo:=by
 obtain ⟨p,xs,rfl,hp,h⟩:=h.tupE
 obtain ⟨a,r,rfl,ha,h⟩:=h.consE
 obtain ⟨b,r,rfl,hb,h⟩:=h.consE
 obtain ⟨c,r,rfl,hc,h⟩:=h.consE
 have:=h.nilE
 subst this
 have:=ha.strE
 subst this
 obtain ⟨pm,xm,rfl,hpm,hm⟩:=hb.tupE
 obtain ⟨po,xo,rfl,hpo,ho⟩:=hc.tupE
 obtain ⟨x0,r,rfl,h0,hm⟩:=hm.consE
 exact ⟨p,pm,po,x0,r,xo,rfl,hp,hpm,hpo,h0,hm,ho⟩
theorem qh:∀ l:List D,2 * l.length<=szs l
 | []=>AL _
 | d :: r=>by
  have:=qh r
  have:=aGY d
  rw [szs,AJ]; lia
theorem aIL (k:Str) (m0:D) (more off:List D):szs (m0 :: more) + szs off + 5<=sz (.tup [.str k,.tup (m0 :: more),.tup off]):=by
 have e1:∀ l,sz (.tup l)=1 + szs l:=fun l=>by rw [sz]
 have e3:∀ (d:D) (r:List D),szs (d :: r)=sz d + 1 + szs r:=fun d r=>by rw [szs]
 have e4:szs []=0:=by rw [szs]
 rw [e1,e3 (.str k),e3 (.tup _),e3 (.tup off),e4,e1,e1]
 lia
theorem aJN {H:Hp} {d:D} (hd:IsForm d):∀ {e:D} {v:V},IsForm e->Dat H d v->Dat H e v->d=e:=by
 have rows:∀ {a b:List D} {xs:List V},(∀ x∈a,∀ {e:D} {v:V},IsForm e->Dat H x v->Dat H e v->x=e)->(∀ x∈b,IsForm x)->Dats H a xs->Dats H b xs->a=b:=by
  intro a
  induction a with
  | nil =>
   intro b xs _ _ h1 h2
   have:=h1.nilE
   subst this
   cases b with
   | nil=>rfl
   | cons y q=>obtain ⟨_,_,e,_⟩:=h2.consE; cases e
  | cons x r ih =>
   intro b xs hx hb h1 h2
   obtain ⟨u,t,rfl,g1,g2⟩:=h1.consE
   cases b with
   | nil=>have:=h2.nilE; cases this
   | cons y q =>
    obtain ⟨u',t',e,k1,k2⟩:=h2.consE
    cases e
    rw [hx x (Am ..) (hb y (Am ..)) g1 k1,ih (fun z hz=>hx z (Al _ hz)) (fun z hz=>hb z (Al _ hz)) g2 k2]
 induction hd with
 | @num i h0 h1 =>
  intro e v he h h'
  have:=h.intE
  subst this
  cases he with
  | @num j _ _=>have:=h'.intE; cases this; rfl
  | grp _ _ _ _=>obtain ⟨_,_,e,_⟩:=h'.tupE; cases e
 | @grp k m0 more off hk h0 h1 h2 i0 i1 i2 =>
  intro e v he h h'
  cases he with
  | @num j _ _=>have:=h'.intE; subst this; obtain ⟨_,_,e,_⟩:=h.tupE; cases e
  | @grp k' m0' more' off' hk' h0' h1' h2' =>
   obtain ⟨p,pm,po,x0,xm,xo,rfl,a1,a2,a3,a4,a5,a6⟩:=aAc h
   obtain ⟨p',pm',po',x0',xm',xo',e,b1,b2,b3,b4,b5,b6⟩:=aAc h'
   cases e
   rw [a1] at b1
   cases b1
   rw [a2] at b2
   cases b2
   rw [a3] at b3
   cases b3
   rw [i0 h0' a4 b4,rows i1 h1' a5 b5,rows i2 h2' a6 b6]
theorem aGa {H:Hp} {ys xs:List V} (p:ys.Perm xs):∀ {ds:List D},Dats H ds xs->∃ es,es.Perm ds/\Dats H es ys:=by
 induction p with
 | nil=>intro ds h; exact ⟨ds,.refl _,h⟩
 | cons x q ih =>
  intro ds h
  cases ds with
  | nil=>have:=h.nilE; cases this
  | cons d r =>
   obtain ⟨u,t,e,g1,g2⟩:=h.consE
   cases e
   obtain ⟨es,p1,p2⟩:=ih g2
   exact ⟨d :: es,p1.cons d,.consI g1 p2⟩
 | swap x y l =>
  intro ds h
  cases ds with
  | nil=>have:=h.nilE; cases this
  | cons d r =>
   obtain ⟨u,t,e,g1,g2⟩:=h.consE
   cases e
   cases r with
   | nil=>have:=g2.nilE; cases this
   | cons d2 r2 =>
    obtain ⟨u,t,e,g3,g4⟩:=g2.consE
    cases e
    exact ⟨d2 :: d :: r2,.swap ..,.consI g3 (.consI g1 g4)⟩
 | trans _ _ i1 i2 =>
  intro ds h
  obtain ⟨es,p1,h1⟩:=i2 h
  obtain ⟨fs,p2,h2⟩:=i1 h1
  exact ⟨fs,p2.trans p1,h2⟩
theorem aBj {H:Hp}:∀ {ds:List D} {xs:List V} {x:V},Dats H ds xs->x∈xs->∃ d∈ds,Dat H d x
 | [],xs,x,h,hx=>by rw [h.nilE] at hx; cases hx
 | d :: r,xs,x,h,hx=>by
  obtain ⟨u,t,rfl,g1,g2⟩:=h.consE
  rcases Aj.mp hx with rfl | hx
  ·exact ⟨d,Am ..,g1⟩
  ·obtain ⟨e,he,k⟩:=aBj g2 hx
   exact ⟨e,Al _ he,k⟩
theorem aCa {H:Hp}:∀ {ds:List D} {xs:List V} {d:D},Dats H ds xs->d∈ds->∃ x∈xs,Dat H d x
 | [],xs,x,h,hx=>by cases hx
 | d :: r,xs,x,h,hx=>by
  obtain ⟨u,t,rfl,g1,g2⟩:=h.consE
  rcases Aj.mp hx with rfl | hx
  ·exact ⟨u,Am ..,g1⟩
  ·obtain ⟨e,he,k⟩:=aCa g2 hx
   exact ⟨e,Al _ he,k⟩
open Classical in
noncomputable def keyH (H:Hp) (v:V):List Int:=if h:∃ d,IsForm d/\Dat H d v then kD h.choose else []
theorem aBk {H:Hp} {v:V} {d:D} (hf:IsForm d) (h:Dat H d v):keyH H v=kD d:=by
 unfold keyH
 have e:∃ d,IsForm d/\Dat H d v:=⟨d,hf,h⟩
 rw [dif_pos e]
 rw [aJN e.choose_spec.1 hf e.choose_spec.2 h]
theorem aE6 {H:Hp}:∀ {es:List D} {ys:List V},(∀ x∈es,IsForm x)->Dats H es ys->ys.Pairwise (fun a b=>lx (keyH H b) (keyH H a)=false)->Ord es
 | [],ys,_,_,_=>BJ
 | d :: r,ys,hf,h,o=>by
  obtain ⟨u,t,rfl,g1,g2⟩:=h.consE
  obtain ⟨o1,o2⟩:=AG.mp o
  refine AG.mpr ⟨fun e he=>?_,aE6 (fun z hz=>hf z (Al _ hz)) g2 o2⟩
  obtain ⟨x,hx,k⟩:=aCa g2 he
  have:=o1 x hx
  rw [aBk (hf e (Al _ he)) k,aBk (hf d (Am ..)) g1] at this
  exact this
theorem aDK {H H':Hp} {xs ys:List V} {ds:List D} (s:Same H H') (hf:∀ x∈ds,IsForm x) (h:Dats H ds xs) (p:ys.Perm xs) (o:ys.Pairwise (fun a b=>lx (keyH H b) (keyH H a)=false)):Dats H' (srtD ds) ys:=by
 obtain ⟨es,p1,h1⟩:=aGa p h
 have e:=aJM hf p1 (aE6 (fun x hx=>hf x (p1.mem_iff.mp hx)) h1 o)
 rw [<- e]
 exact Dats.kt (KT.same s) _ h1
theorem aGb:∀ {l:List D},(∀ x∈l,(kD x).length<=2 * sz x)->(kS l).length<=2 * szs l
 | [],_=>by rw [aE4]; exact AL _
 | d :: r,h=>by
  have ih:=aGb (l:=r) fun x hx=>h x (Al _ hx)
  have:=h d (Am ..)
  rw [jw,szs,Ai]
  lia
theorem aKv {d:D} (h:IsForm d):(kD d).length<=2 * sz d:=by
 induction h with
 | @num i _ _=>rw [aAb]; have:=aGY (.int i); show 2<=_; lia
 | @grp k m0 more off hk h0 h1 h2 i0 i1 i2 =>
  have sg:=aIL k m0 more off
  have a:=aGb (l:=m0 :: more) (fun x hx=>by rcases Aj.mp hx with rfl | hx; exact i0; exact i1 x hx)
  have b:=aGb i2
  rw [jY,AJ,Ai,AJ,Ai]
  show _ + (_ + (1) + 1) + 1<=_
  lia
theorem jE:∀ (a b:List D),szs (a++b)=szs a + szs b
 | [],b=>by rw [szs]; simp
 | d :: r,b=>by
  show szs (d :: (r++b))=_
  rw [szs,szs,jE r b]
  lia
theorem aE7 {a b:List D} (p:a.Perm b):szs a=szs b:=by
 induction p with
 | nil=>rfl
 | cons x _ ih=>rw [szs,szs,ih]
 | swap x y l=>rw [szs,szs,szs,szs]; lia
 | trans _ _ i1 i2=>rw [i1,i2]
theorem aGc (k:Str) (more off:List D):sz (.tup [.str k,.tup more,.tup off])=szs more + szs off + 7:=by
 have e1:∀ l,sz (.tup l)=1 + szs l:=fun l=>by rw [sz]
 have e2:sz (.str k)=1:=by rw [sz]; all_goals simp
 have e3:∀ (d:D) (r:List D),szs (d :: r)=sz d + 1 + szs r:=fun d r=>by rw [szs]
 have e4:szs []=0:=by rw [szs]
 rw [e1,e3 (.str k),e3 (.tup more),e3 (.tup off),e4,e2,e1,e1]
 lia
theorem aHj {k:Str} {d:D} (h:IsForm d):szs (pf k d).1 + szs (pf k d).2<=sz d + 1:=by
 have e0:szs []=0:=by rw [szs]
 have e1:∀ (d:D) (r:List D),szs (d :: r)=sz d + 1 + szs r:=fun d r=>by rw [szs]
 have one:∀ d:D,szs [d] + szs []=sz d + 1:=fun d=>by rw [e1,e0]
 cases h with
 | num h0 h1=>rw [aKu]; exact Fz (one _)
 | @grp k' m0 more off hk g0 g1 g2 =>
  rw [aE5]
  split
  ·rw [aGc]; show szs (m0 :: more) + szs off<=_; lia
  ·exact Fz (one _)
theorem aIM (b:Bool) (p:List D×List D):szs (swp b p).1 + szs (swp b p).2=szs p.1 + szs p.2:=by
 cases b
 ·rfl
 ·show szs p.2 + szs p.1=_; lia
theorem aJO:∀ {x:Way},x.ok 1000000->sz (fP x) + 10<=11 * x.size:=by
 intro x
 induction x with
 | num n=>intro _; show sz (.int n) + 10<=11 * 1; rw [sz]; all_goals simp
 | op w a b ia ib =>
  intro h
  obtain ⟨_,ha,hb⟩:=h
  have fa:=aHj (k:=knd w) (yX ha)
  have fb:=aHj (k:=knd w) (yX hb)
  have sw:=aIM (trn w) (pf (knd w) (fP b))
  have i1:=ia ha
  have i2:=ib hb
  rw [fP,aGc,aE7 (qJ _),aE7 (qJ _),jE,jE]
  show _<=11 * (a.size + b.size)
  lia
theorem aIN:∀ {l:List D} {x:D},x∈l->sz x + 1<=szs l
 | d :: r,x,h=>by
  rw [szs]
  rcases Aj.mp h with rfl | h
  ·lia
  ·have:=aIN h; lia
noncomputable def top (i:Nat):Stmt:=PySem.Challenge.pw_ledtowish_k28_whole_rows_by_their_forms.main.body.getD i (.Pass ⟨0,0,0,0⟩)
section
variable {P:At} {w:AV} {K:Af} {mg:Str->Option Value} {base:Heap}
noncomputable abbrev aB9:Stmt:=aIn (top 5) 0
theorem aJP:FnScope ["self","word"] ["self","word"] (zG aB9):=⟨rfl,rfl,rfl,by decide +kernel,rfl,by decide +kernel,by decide +kernel⟩
noncomputable def xw (wd:Str):HO:=.xd [("word",.str wd)]
noncomputable def aGd (C:Addr):Sp:=fun vs H Q _=>∃ (e:Addr) (v:V) (fr:Bool),vs=[.ref e,v]/\H e=some (xO fr (.ref C) none e)/\∀ dx,H dx=none->dx≠e->Q .non (upd (upd H e (xO fr (.ref C) (some dx) e)) dx (.xd [("word",v)]))
theorem aJQ {f C:Addr} {bm:List Value} {fd:Bu} (F:Fun K "__init__" "NoWay.__init__" aB9 f fd) (c:XC K C bm) (n:aF5 K C "word"):FnOk P w K mg base CX0 1 f fd ["self","word"] (aGd C):=by
 refine F.ok aJP (fun vs H Q E h=>?_) (fun cdv A outer s H vs Q E hr h=>?_)
 ·obtain ⟨e,v,fr,rfl,_⟩:=h
  rfl
 obtain ⟨e,v,fr,rfl,he,q⟩:=h
 refine ⟨_,zI (aIv (pv 0) (pv 1) rfl),?_⟩
 refine ⟨_,rfl,_,rfl,e,C,bm,fr,rfl,c,he,n,fun dx h1 h2=>?_⟩
 exact q dx h1 h2
structure Refs (P:At) (w:AV) (K:Af) (mg:Str->Option Value) (base:Heap) (W N:Addr) (bN:List Value):Prop where
 cW:XC K W vMro
 cN:XC K N bN
 gN:mg "NoWay"=some (.ref N)
 mN:XMk P w K mg base N 1 (aGd N)
 wN:aF5 K N "word"
noncomputable def jF (N:Addr) (wd:Str):Sp:=fun vs H Q E=>∃ (a b:Int),vs=[.int a,.int b]/\1<=a/\a < 2 ^ 4000/\1<=b/\b < 2 ^ 4000/\match byE wd a b with
 | .inr z=>Q (.int z) H
 | .inl e=>∀ dx,H dx=none->E (.ref N) (some dx) (upd H dx (xw e))
noncomputable def FamX (N:Addr) (fam:Str->Addr):Addr->Sp->Prop:=fun f sp=>∃ wd,qI wd/\f=fam wd/\sp=jF N wd
structure DeedsX (P:At) (w:AV) (K:Af) (mg:Str->Option Value) (base:Heap) (N dD:Addr) (fam:Str->Addr):Prop where
 top:jm w K dD
 gl:mg "DEEDS"=some (.ref dD)
 at_:∀ wd,qI wd->As K dD wd=some (some (.ref (fam wd)))
 ok:∀ wd,qI wd->Callee P w K mg base (CXF P w) 3 (fam wd) (jF N wd)
variable {W N:Addr} {bN:List Value}
theorem aIO {H:Hp} {E:XS} {σ:St} {wd:Str} (h:∀ dx,H dx=none->E (.ref N) (some dx) σ (upd H dx (xw wd))) (e:Addr) (he:H e=none) :
  aGd N [.ref e,.str wd] (upd H e (xO true (.ref N) none e)) (fun v H2=>v=.non/\∃ dx,H2 e=some (xO true (.ref N) dx e)/\E (.ref N) dx σ (del H2 e)) E0:=by
 refine ⟨e,.str wd,true,rfl,zC,fun dx h1 h2=>⟨rfl,some dx,?_,?_⟩⟩
 ·rw [zH (BT h2),zC]
 ·rw [aET h2,aIc,aIw he]
  refine h dx ?_
  rw [zH h2] at h1
  exact h1
noncomputable abbrev aBA:Stmt:=top 7
theorem aJR:FnScope ["first","second"] ["first","second"] (zG aBA):=⟨rfl,rfl,rfl,by decide +kernel,rfl,by decide +kernel,by decide +kernel⟩
theorem aHk {f:Addr} {fd:Bu} (F:Fun K "plus" "plus" aBA f fd):FnOk P w K mg base (CXF P w) 3 f fd ["first","second"] (jF N "plus"):=by
 refine F.okX aJR (fun vs H Q E h=>?_) (fun cdv A outer s H vs Q E hr h=>?_)
 ·obtain ⟨a,b,rfl,_⟩:=h
  rfl
 obtain ⟨a,b,rfl,a1,a2,b1,b2,e⟩:=h
 refine ⟨_,(zI (zV (zW qB (pv 0) (pv 1)))),?_⟩
 try dsimp only [Cx.nox,kx1,kx2,kx3,kx4,kx5,kx6,kx7,kx8,kx9,kxa,kxb,kxc]
 refine ⟨_,rfl,_,rfl,_,_,rfl,rfl,?_⟩
 exact e
noncomputable abbrev jx:Stmt:=top 9
theorem aHl:FnScope ["first","second"] ["first","second"] (zG jx):=⟨rfl,rfl,rfl,by decide +kernel,rfl,by decide +kernel,by decide +kernel⟩
theorem aGe {f:Addr} {fd:Bu} (F:Fun K "times" "times" jx f fd):FnOk P w K mg base (CXF P w) 3 f fd ["first","second"] (jF N "times"):=by
 refine F.okX aHl (fun vs H Q E h=>?_) (fun cdv A outer s H vs Q E hr h=>?_)
 ·obtain ⟨a,b,rfl,_⟩:=h
  rfl
 obtain ⟨a,b,rfl,a1,a2,b1,b2,e⟩:=h
 have hmul:Mb a b:=aHB (by lia) (by lia)
 refine ⟨_,(zI (zV (zW aIo (pv 0) (pv 1)))),?_⟩
 try dsimp only [Cx.nox,kx1,kx2,kx3,kx4,kx5,kx6,kx7,kx8,kx9,kxa,kxb,kxc]
 refine ⟨_,rfl,_,rfl,_,_,rfl,rfl,hmul,?_⟩
 have e':byE "times" a b=.inr (a * b):=by unfold byE; rw [if_neg (by decide +kernel),if_pos rfl]
 rw [e'] at e
 exact e
noncomputable abbrev aBB:Stmt:=top 8
theorem aJS:FnScope ["first","second"] ["first","second"] (zG aBB):=⟨rfl,rfl,rfl,by decide +kernel,rfl,by decide +kernel,by decide +kernel⟩
theorem aE8 {a b:Int}:byE "less" a b=if b < a then .inr (a - b) else .inl "less":=by
 unfold byE; rw [if_neg (by decide +kernel),if_neg (by decide +kernel),if_pos rfl]
theorem aCb {a b:Int}:byE "share" a b=if a % b=0 then .inr (a / b) else .inl "share":=by
 unfold byE; rw [if_neg (by decide +kernel),if_neg (by decide +kernel),if_neg (by decide +kernel)]
theorem aHm {f:Addr} {fd:Bu} (F:Fun K "less" "less" aBB f fd) (R:Refs P w K mg base W N bN):FnOk P w K mg base (CXF P w) 3 f fd ["first","second"] (jF N "less"):=by
 refine F.okX aJS (fun vs H Q E h=>?_) (fun cdv A outer s H vs Q E hr h=>?_)
 ·obtain ⟨a,b,rfl,_⟩:=h
  rfl
 obtain ⟨a,b,rfl,a1,a2,b1,b2,e⟩:=h
 rw [aE8] at e
 refine ⟨_,(zF (qw (zc aLX (pv 0) (pv 1) (zn _)) (zI (aDm rfl R.cN R.mN (hr.mono (by lia)) R.gN (zB aI1 zE))) yC)
   (zI (zV (zW aI2 (pv 0) (pv 1))))),?_⟩
 try dsimp only [Cx.nox,kx1,kx2,kx3,kx4,kx5,kx6,kx7,kx8,kx9,kxa,kxb,kxc]
 refine ⟨_,rfl,_,rfl,_,_,rfl,rfl,_,rfl,?_⟩
 refine ite2 (fun c=>?_) (fun c=>?_)
 ·have hle:a<=b:=of_decide_eq_true c
  rw [if_neg (by lia)] at e
  exact ⟨(by show 1<=sizeLine; decide),aIO (σ:=[]) (E:=fun cls dx _ H'=>E cls dx H') e⟩
 ·have hlt:b < a:=by
   have:¬ a<=b:=fun z=>c (decide_eq_true z)
   lia
  rw [if_pos hlt] at e
  refine ⟨_,rfl,_,rfl,_,_,rfl,rfl,?_⟩
  exact e
noncomputable abbrev jy:Stmt:=top 10
theorem aHn:FnScope ["first","second"] ["first","second"] (zG jy):=⟨rfl,rfl,rfl,by decide +kernel,rfl,by decide +kernel,by decide +kernel⟩
theorem aGf {f:Addr} {fd:Bu} (F:Fun K "share" "share" jy f fd) (R:Refs P w K mg base W N bN):FnOk P w K mg base (CXF P w) 3 f fd ["first","second"] (jF N "share"):=by
 refine F.okX aHn (fun vs H Q E h=>?_) (fun cdv A outer s H vs Q E hr h=>?_)
 ·obtain ⟨a,b,rfl,_⟩:=h
  rfl
 obtain ⟨a,b,rfl,a1,a2,b1,b2,e⟩:=h
 rw [aCb] at e
 refine ⟨_,(zF (qw (zc aLV (zW qC (pv 0) (pv 1)) zM (zn _)) (zI (aDm rfl R.cN R.mN (hr.mono (by lia)) R.gN (zB aI1 zE))) yC)
   (zI (zV (zW aDe (pv 0) (pv 1))))),?_⟩
 try dsimp only [Cx.nox,kx1,kx2,kx3,kx4,kx5,kx6,kx7,kx8,kx9,kxa,kxb,kxc]
 refine ⟨_,rfl,_,rfl,_,_,rfl,rfl,(by show (0:Int) < b; lia),rfl,_,rfl,?_⟩
 by_cases hz:a % b=0
 ·rw [if_pos hz] at e
  refine aLc (congrArg V.int hz) ?_
  refine ⟨_,rfl,_,rfl,_,_,rfl,rfl,⟨by lia,by lia⟩,?_⟩
  exact e
 ·rw [if_neg hz] at e
  refine (show (if _ then _ else _:Prop) from ?_)
  rw [if_pos (by rw [decide_eq_false (fun z=>hz (V.int.inj z))]; rfl)]
  exact ⟨(by show 1<=sizeLine; decide),aIO (σ:=[]) (E:=fun cls dx _ H'=>E cls dx H') e⟩
noncomputable def aKw (N:Addr):Sp:=fun vs H Q E=>∃ (wd:Str) (a b:Int),vs=[.str wd,.int a,.int b]/\qI wd/\1<=a/\a < 2 ^ 4000/\1<=b/\b < 2 ^ 4000/\match byE wd a b with
 | .inr z=>Q (.int z) H
 | .inl e=>∀ dx,H dx=none->E (.ref N) (some dx) (upd H dx (xw e))
noncomputable abbrev yf:Stmt:=top 12
theorem sc_worth_by:FnScope ["word","first","second","deed"] ["word","first","second"] (zG yf):=⟨rfl,rfl,rfl,by decide +kernel,rfl,by decide +kernel,by decide +kernel⟩
theorem aKx {f dD:Addr} {fam:Str->Addr} {fd:Bu} (F:Fun K "worth_by" "worth_by" yf f fd) (B:Blt mg) (De:DeedsX P w K mg base N dD fam):FnOk P w K mg base (CXF P w) 5 f fd ["word","first","second"] (aKw N):=by
 have De_ok:∀ g sp,FamX N fam g sp->Callee P w K mg base (CXF P w) 3 g sp:=by
  rintro g sp ⟨wd,hw,rfl,rfl⟩
  exact De.ok wd hw
 refine F.okX (k:=4) sc_worth_by (fun vs H Q E h=>?_) (fun cdv A outer s H vs Q E hr h=>?_)
 ·obtain ⟨wd,a,b,rfl,_⟩:=h
  rfl
 obtain ⟨wd,a,b,rfl,hw,a1,a2,b1,b2,q⟩:=h
 refine ⟨_,(zF (zS (i:=3) sc_worth_by.nd rfl (by first | exact Bc rfl | exact Ba rfl) (jk aFF (aAG (v:=.ref dD) rfl De.gl rfl) (pv 0) (fun _ _=>rfl)))
   (zI (zV (aFd De_ok (hr.mono (by lia)) (pv 3) (zB (pv 1) (zB (pv 2) zE)))))),?_⟩
 try dsimp only [Cx.nox,kx1,kx2,kx3,kx4,kx5,kx6,kx7,kx8,kx9,kxa,kxb,kxc]
 refine ⟨_,rfl,dD,wd,.ref (fam wd),.ref (fam wd),rfl,rfl,De.top,De.at_ wd hw,rfl,?_⟩
 exact ⟨_,rfl,fam wd,jF N wd,rfl,⟨wd,hw,rfl,rfl⟩,_,rfl,_,rfl,a,b,rfl,a1,a2,b1,b2,q⟩
theorem zT {H H':Hp} {p:Addr} (s:Same H H') (h:H' p=none):H p=none:=by
 cases e:H p with
 | none=>rfl
 | some o=>rw [s _ _ e] at h; cases h
theorem zf {H H':Hp} {p:Addr} {o:HO} (s:Same H H') (h:H p=none):Same H (upd H' p o):=fun b u e=>by rw [zH (zD e h)]; exact s b u e
noncomputable def Bs (H:Hp) (v:V) (c:List Bool):Prop:=∃ q,v=.ref q/\H q=some (.tup (c.map V.bl))
theorem Bs.kt {H H':Hp} {v:V} {c:List Bool} (k:KT H H') (h:Bs H v c):Bs H' v c:=by
 obtain ⟨q,h1,h2⟩:=h
 exact ⟨q,h1,k _ _ h2⟩
noncomputable def Bf (H:Hp) (v:V) (c:List Bool):Prop:=∃ q,v=.ref q/\Kb H q c
noncomputable def KF (H H':Hp):Prop:=∀ b o ys,H b=some (.frz o (.tup ys))->H' b=some (.frz o (.tup ys))
theorem KF.same {H H':Hp} (s:Same H H'):KF H H':=fun _ _ _ e=>s _ _ e
theorem KF.trans {H H1 H2:Hp} (a:KF H H1) (b:KF H1 H2):KF H H2:=fun _ _ _ e=>b _ _ _ (a _ _ _ e)
theorem KF.upd {H:Hp} {p:Addr} {o:HO} {ys:List V} (h:H p=some (.lst ys)):KF H (L2.upd H p o):=fun b ob xs e=>by
 rw [zH (fun z=>by rw [z,h] at e; cases e)]; exact e
theorem aKy {H H':Hp} {q:Addr} {c:List Bool} (k:KF H H') (h:Kb H q c):Kb H' q c:=let ⟨o,e,d⟩:=h; ⟨o,k _ _ _ e,d⟩
theorem Bf.kf {H H':Hp} {v:V} {c:List Bool} (k:KF H H') (h:Bf H v c):Bf H' v c:=let ⟨q,h1,h2⟩:=h; ⟨q,h1,aKy k h2⟩
theorem jG {H H':Hp} {a:Addr} {u:HO} (s:Same H H') (h:Rd H a u):Rd H' a u:=by
 rcases h with h | ⟨o,h⟩
 ·exact .inl (s _ _ h)
 ·exact .inr ⟨o,s _ _ h⟩
noncomputable def aKz:Sp:=fun vs H Q _=>∃ m:Nat,vs=[.int m]/\m<=4/\∀ (p:Addr) (ys:List V) (H':Hp),Same H H'->H p=none->H' p=some (.lst ys)->AH (Bf H') ys (chL m)->Q (.ref p) H'
theorem pow2 {k:Nat} (h:k<=4):2 ^ k<=16:=Ay (JP (by decide) h) (by decide)
noncomputable abbrev zx:Stmt:=top 1
theorem sc_choices_of:FnScope ["many","choices","at"] ["many"] (zG zx):=⟨rfl,rfl,rfl,by decide +kernel,rfl,by decide +kernel,by decide +kernel⟩
theorem aL0 {f:Addr} {fd:Bu} (F:Fun K "choices_of" "choices_of" zx f fd) (B:Blt mg):FnOk P w K mg base CX0 1 f fd ["many"] aKz:=by
 refine F.ok (k:=0) sc_choices_of (fun vs H Q E h=>?_) (fun cdv A outer s H vs Q E hr h=>?_)
 ·obtain ⟨m,rfl,_⟩:=h
  rfl
 obtain ⟨m,rfl,hm,q⟩:=h
 refine ⟨_,(zF (zS (i:=1) sc_choices_of.nd rfl (by first | exact Bc rfl | exact Ba rfl) (yV (zB (aGH zE) zE zt)))
   (zF (yH BD rfl (jJ rfl B.range (zB (pv 0) zE)) (zK (i:=2) sc_choices_of.nd rfl (by first | exact Bc rfl | exact Ba rfl)) (zI (aCy (i:=1) sc_choices_of.nd rfl (by first | exact Bc rfl | exact Ba rfl) (N:=["choice","truth"]) rfl (yn [none,none] rfl (by decide +kernel) (by decide +kernel) rfl rfl) rfl (zr (pv 1)) (fun _ _ _ _=>(zK (i:=0) (show (["choice","truth"]:List Str).Nodup by decide +kernel) rfl (by first | exact Bc rfl | exact Ba rfl))) (fun _ _ _ _=>(aAH (yU (zB aA7 (zB aA7 zE))))) (fun _ _ _ _=>(zK (i:=1) (show (["choice","truth"]:List Str).Nodup by decide +kernel) rfl (by first | exact Bc rfl | exact Ba rfl))) (fun _ _ _ _=>(zW aJ8 (pv 0) (aGH (zB (pv 1) zE)))))))
   (zI (zV (pv 1))))),?_⟩
 try dsimp only [Cx.nox,kx1,kx2,kx3,kx4,kx5,kx6,kx7,kx8,kx9,kxa,kxb,kxc]
 have szl:=Bb
 refine ⟨(by show 0<=sizeLine; decide),fun p0 o0 hp0 ho0=>⟨(by show 1<=sizeLine; decide),fun p1 hp1=>?_⟩⟩
 have n1:H p1=none:=zT (Same.new hp0) hp1
 refine ⟨_,rfl,_,rfl,by lia,by lia,jK (n:=m) (fun k σ H'=>∃ (z:Option V) (pf:Addr) (ys:List V),σ=[some (.int m),some (.ref pf),z]/\Same H H'/\H pf=none/\H' pf=some (.lst ys)/\AH (Bf H') ys (chL k))
  ⟨none,p1,_,rfl,(Same.new hp0).trans (Same.new hp1),n1,zC,.cons ⟨p0,rfl,o0,Same.new hp1 _ _ zC,ho0⟩ .nil⟩ ?_ ?_⟩
 ·rintro k σ H2 hk ⟨z,pf,ys,rfl,sH,nf,gf,pys⟩
  have yl:ys.length=2 ^ k:=by rw [pys.length,yd]
  have p16:=pow2 (k:=k) (by lia)
  refine ⟨_,rfl,pf,rfl,⟨_,SqL.of gf⟩,fun D hD C s2 fp=>?_⟩
  refine aBT (K:=K) (a:=pf) (xs:=ys) (fun i σ H3=>∃ (o1 o2:Option V) (zs:List V),σ=[o1,o2]/\Same H2 H3/\H3 D=some (.lst zs)/\AH (Bf H3) zs (((chL k).take i).flatMap fun c=>[c++[false],c++[true]]))
   ⟨none,none,[],rfl,Same.new hD,zC,.nil⟩ (fun i σ H3 ⟨_,_,_,_,g,_⟩=>SqL.of (g _ _ gf)) ?_ ?_
  ·rintro i x σ H3 hi ⟨o1,o2,zs,rfl,s3,g3,pz⟩
   obtain ⟨c,hx,hw⟩:=zq pys hi
   obtain ⟨qx,rfl,gq⟩:=hw.kf (KF.same s3)
   have hil:i < 2 ^ k:=by rw [<- yl]; exact (Aq.mp hi).1
   have cl:c.length=k:=jt k c (Au hx)
   refine ⟨(by show 2<=sizeLine; decide),fun pt hpt=>?_⟩
   have st:=Same.new (o:=.tup [.bl false,.bl true]) hpt
   refine ⟨pt,rfl,⟨_,SqT.of zC⟩,aID (K:=K) (a:=pt) (zs:=[.bl false,.bl true]) (fun j σ H4=>∃ (o2:Option V) (zs:List V),σ=[some (.ref qx),o2]/\Same H2 H4/\H4 pt=some (.tup [.bl false,.bl true])/\H4 D=some (.lst zs)/\Kb H4 qx c /\
    AH (Bf H4) zs ((((chL k).take i).flatMap fun c=>[c++[false],c++[true]])++(([false,true]:List Bool).take j).map fun t=>c++[t])) ⟨o2,zs,rfl,s3.trans st,zC,st _ _ g3,gq.same st,by rw [CI,BX,AM]; exact aEf (R:=Bf) (fun v x h=>h.kf (KF.same st)) pz⟩ (fun j σ H4 ⟨_,_,_,_,g,_⟩=>SqT.of g) ?_ ?_⟩
   ·rintro j y σ H4 hj ⟨o2,zs,rfl,s4,gt,g4,gq4,pz4⟩
    obtain ⟨t,ht,rfl,hj2⟩:∃ t:Bool,([false,true]:List Bool)[j]?=some t/\y=.bl t/\j<=1:=by
     match j,hj with
     | 0,hj=>simp at hj; exact ⟨false,rfl,hj.symm,by decide⟩
     | 1,hj=>simp at hj; exact ⟨true,rfl,hj.symm,by decide⟩
     | j + 2,hj=>simp at hj
    have zl:zs.length=i * 2 + j:=by
     rw [pz4.length,Ai,aGC _ 2 _ (fun x _=>rfl),Ah,Bz,Bz,yd]
     show min i (2 ^ k) * 2 + min j 2=_
     rw [FN (EL hil),FN (by lia)]
    refine ⟨_,rfl,_,rfl,(by show 1<=sizeLine; decide),fun pu ou hpu hou=>?_⟩
    have su:=Same.new (o:=.frz ou (.tup [.bl t])) hpu
    obtain ⟨oq,eq4,dq4⟩:=gq4.same su
    refine ⟨qx,pu,oq,ou,_,_,rfl,rfl,eq4,zC,hou,by simp,by rw [Ah]; show c.length + 1<=_; lia,fun pp op H5 s5 g5 d5=>?_⟩
    have s45:=su.trans s5
    have g7:=s45 _ _ g4
    have kt7:KT H5 (upd H5 D (.lst (zs++[.ref pp]))):=KT.upd g7
    have kf7:KF H5 (upd H5 D (.lst (zs++[.ref pp]))):=KF.upd g7
    refine ⟨zs,g7,by rw [szl]; lia,some (.bl t),zs++[.ref pp],rfl,zf (s4.trans s45) hD,kt7 _ _ (s45 _ _ gt),zC,aKy kf7 (gq4.same s45),?_⟩
    rw [zO ht,Bh,<- By]
    refine yG (aEf (R:=Bf) (fun v x h=>h.kf (KF.trans (KF.same s45) kf7)) pz4) ⟨pp,rfl,op,?_,d5⟩
    rw [kf7 _ _ _ g5,Bh]
    rfl
   ·rintro σ H4 ⟨o2,zs,rfl,s4,gt,g4,gq4,pz4⟩
    refine ⟨_,_,zs,rfl,s4,g4,?_⟩
    rw [zO hx,BP]
    exact pz4
  ·rintro σ H3 ⟨o1,o2,zs,rfl,s3,g3,pz⟩
   refine ⟨_,D,zs,rfl,sH.trans s3,zT sH hD,g3,?_⟩
   have el:(chL k).length=ys.length:=pys.length.symm
   rw [<- el,AE] at pz
   exact pz
 ·rintro σ H2 ⟨z,pf,ys,rfl,sH,nf,gf,pys⟩
  exact ⟨_,rfl,q pf ys H2 sH nf gf pys⟩
end
end Law
namespace Law
open PySem L2
section
variable {P:At} {w:AV} {K:Af} {mg:Str->Option Value} {base:Heap}
theorem aBl {s u:TS} {D:Ends} {σ:St} {H:Hp} (Mid:St->Hp->Prop) (h2:∀ σ' H',Mid σ' H'->u D σ' H') (h:∀ X':St->Hp->Prop,(∀ σ' H',Mid σ' H'->X' σ' H')->s { D with nx:=X' } σ H):tSeq s u D σ H:=h (u D) h2
noncomputable def Bp (H:Hp) (v:V) (p:List Bool×List Bool):Prop:=∃ q u1 u2,v=.ref q/\H q=some (.tup [u1,u2])/\Bs H u1 p.1/\Bs H u2 p.2
theorem Bp.kt {H H':Hp} {v:V} {p:List Bool×List Bool} (k:KT H H') (h:Bp H v p):Bp H' v p:=by
 obtain ⟨q,u1,u2,h1,h2,h3,h4⟩:=h
 exact ⟨q,u1,u2,h1,k _ _ h2,h3.kt k,h4.kt k⟩
noncomputable def Be (H:Hp) (v:V) (e:Bool×Bool):Prop:=∃ q,v=.ref q/\H q=some (.tup [.bl e.1,.bl e.2])
noncomputable def aHo (K:Af):Sp:=fun vs H Q _=>∃ (a:Addr) (c:List Bool),vs=[.ref a]/\Rd H a (.tup (c.map V.bl))/\c.length<=4/\∀ (p:Addr) (ys:List V) (H':Hp),Same H H'->H p=none->H' p=some (.lst ys)->AH (Bp H') ys (zX c)->Q (.ref p) H'
theorem sp16 {c:List Bool} (h:c.length<=4):(splS c).length<=16:=Ay (aHO c) (pow2 h)
theorem aDL {l:List (List Bool×List Bool)} {i:Nat} {x:List Bool×List Bool} (h:l[i]?=some x) (t:Bool):yy (l.take (i + 1)) t=yy (l.take i) t++(jB t).map fun e=>(x.1++[e.1],x.2++[e.2]):=by
 unfold yy
 rw [zO h,BP]
 simp
theorem aEn (l:List (List Bool×List Bool)) (t:Bool):(yy l t).length<=l.length * 2:=by
 unfold yy
 rw [aGC _ (jB t).length _ (fun x _=>by rw [Ah])]
 exact Nat.mul_le_mul_left _ (by cases t <;> decide)
noncomputable abbrev yL:Stmt:=top 2
theorem sc_splits_of:FnScope ["choice","splits","truth","ends"] ["choice"] (zG yL):=⟨rfl,rfl,rfl,by decide +kernel,rfl,by decide +kernel,by decide +kernel⟩
theorem aL1 {f:Addr} {fd:Bu} (F:Fun K "splits_of" "splits_of" yL f fd) (Bany:mg "any"=none):FnOk P w K mg base CX0 1 f fd ["choice"] (aHo K):=by
 refine F.okW (k:=0) sc_splits_of (fun vs H Q E h=>?_) (fun cdv A outer s H vs Q E hr h=>?_)
 ·obtain ⟨a,c,rfl,_⟩:=h
  rfl
 obtain ⟨a,c,rfl,ha,hc,q⟩:=h
 refine ⟨_,(aDo (aLj (i:=1) sc_splits_of.nd rfl (by first | exact Bc rfl | exact Ba rfl) (aLi (qU (aCC (qU (aCC aBU) (qU (aCC aBU) aBU zt) zt)) aBU zt)))
   (aDo (Wr.mk (yH BD rfl (aAH (pv 0)) (zK (i:=2) sc_splits_of.nd rfl (by first | exact Bc rfl | exact Ba rfl)) (zF (zS (i:=3) sc_splits_of.nd rfl (by first | exact Bc rfl | exact Ba rfl) (aDY (aBE (pv 2) (fun _=>rfl)) (Wr.un (aCC (qU (aCC (qU (Wr.mk aA7) (qU (Wr.mk aA7) aBU))) (qU (aCC (qU (Wr.mk aA7) (qU (Wr.mk aA7) aBU))) aBU zt) zt))) (Wr.un (aCC (qU (aCC (qU (Wr.mk aA7) (qU (Wr.mk aA7) aBU))) aBU zt)))))
   (zI (aCy (i:=1) sc_splits_of.nd rfl (by first | exact Bc rfl | exact Ba rfl) (N:=["one","rest","mine","others","ends"]) rfl (yn [none,none,none,none,some 3] rfl (by decide +kernel) (by decide +kernel) rfl rfl) rfl (zr (pv 1)) (fun _ _ _ _=>(qA rfl (zP (zK (i:=0) (show (["one","rest","mine","others","ends"]:List Str).Nodup by decide +kernel) rfl (by first | exact Bc rfl | exact Ba rfl)) (zP (zK (i:=1) (show (["one","rest","mine","others","ends"]:List Str).Nodup by decide +kernel) rfl (by first | exact Bc rfl | exact Ba rfl)) yK)))) (fun _ _ _ _=>(aAH (pv 4))) (fun _ _ _ _=>(qA rfl (zP (zK (i:=2) (show (["one","rest","mine","others","ends"]:List Str).Nodup by decide +kernel) rfl (by first | exact Bc rfl | exact Ba rfl)) (zP (zK (i:=3) (show (["one","rest","mine","others","ends"]:List Str).Nodup by decide +kernel) rfl (by first | exact Bc rfl | exact Ba rfl)) yK)))) (fun _ _ _ _=>(yU (zB (zW jq (pv 0) (yU (zB (pv 2) zE))) (zB (zW jq (pv 1) (yU (zB (pv 3) zE))) zE)))))))))
   (aJ0 (Wr.mk (zV (yT (N:=["one","rest"]) rfl (yn [none,none] rfl (by decide +kernel) (by decide +kernel) rfl rfl) rfl (zr (pv 1)) (fun _ _ _ _=>(qA rfl (zP (zK (i:=0) (show (["one","rest"]:List Str).Nodup by decide +kernel) rfl (by first | exact Bc rfl | exact Ba rfl)) (zP (zK (i:=1) (show (["one","rest"]:List Str).Nodup by decide +kernel) rfl (by first | exact Bc rfl | exact Ba rfl)) yK)))) (fun _ _ _ _=>(qX (PW.pt (aEu (aBv (zY (aAZ rfl) rfl Bany aFj (zB (pv 0) zE))) (aEt (aBv (zY (aAZ rfl) rfl Bany aFj (zB (pv 1) zE)))))))) (fun _ _ _ _=>(yU (zB (pv 0) (zB (pv 1) zE)))))))))),?_⟩
 try dsimp only [Cx.nox,kx1,kx2,kx3,kx4,kx5,kx6,kx7,kx8,kx9,kxa,kxb,kxc]
 have szl:=Bb
 refine ⟨(by show 0<=sizeLine; decide),fun p0 hp0=>⟨(by show 0<=sizeLine; decide),fun p1 hp1=>⟨(by show 2<=sizeLine; decide),fun p2 hp2=>⟨(by show 1<=sizeLine; decide),fun p3 hp3=>?_⟩⟩⟩⟩
 have s0:=(Same.new (o:=.tup []) hp0).trans ((Same.new (o:=.tup []) hp1).trans (Same.new (o:=.tup [.ref p0,.ref p1]) hp2))
 have n3:=zT s0 hp3
 have s3:=Same.new (o:=.lst [.ref p2]) hp3
 have g0:AH (Bp (upd (upd (upd (upd H p0 (.tup [])) p1 (.tup [])) p2 (.tup [.ref p0,.ref p1])) p3 (.lst [.ref p2]))) [.ref p2] (splS (c.take 0)) :=
  .cons ⟨p2,.ref p0,.ref p1,rfl,s3 _ _ zC,⟨p0,rfl,s3 _ _ (Same.new hp2 _ _ (Same.new hp1 _ _ zC))⟩,⟨p1,rfl,s3 _ _ (Same.new hp2 _ _ zC)⟩⟩ .nil
 refine ⟨_,rfl,a,rfl,⟨_,.inl (jG (s0.trans s3) ha)⟩,aCl (K:=K) (a:=a) (xs:=c.map V.bl) (fun k σ H'=>∃ (z1 z2:Option V) (pf:Addr) (ys:List V),σ=[some (.ref a),some (.ref pf),z1,z2]/\Same H H'/\H pf=none/\H' pf=some (.lst ys)/\AH (Bp H') ys (splS (c.take k)))
  ⟨none,none,p3,_,rfl,s0.trans s3,n3,zC,g0⟩ (fun i σ H' _ ⟨_,_,_,_,_,g,_⟩=>.inl (jG g ha)) ?_ ?_⟩
 ·rintro k x σ H2 hk ⟨z1,z2,pf,ys,rfl,sH,nf,gf,pys⟩
  rw [AO] at hk
  obtain ⟨t,ht,rfl⟩:∃ t,c[k]?=some t/\V.bl t=x:=by
   cases e:c[k]? with
   | none=>rw [e] at hk; cases hk
   | some n=>rw [e] at hk; exact ⟨n,rfl,by simpa using hk⟩
  have hkl:k < c.length:=(Aq.mp ht).1
  have yl:ys.length<=16:=by rw [pys.length]; exact sp16 (by rw [Bz]; lia)
  dsimp only [aBC]
  refine aBl (fun σ' H'=>∃ (pe:Addr) (es:List V),σ'=[some (.ref a),some (.ref pf),some (.bl t),some (.ref pe)]/\Same H2 H'/\H' pe=some (.tup es)/\AH (Be H') es (jB t)) ?_ ?_
  ·rintro σ' H1 ⟨pe,es,rfl,s1,ge,pes⟩
   have el2:(jB t).length<=2:=by cases t <;> decide
   refine ⟨_,rfl,pf,rfl,⟨_,SqL.of (s1 _ _ gf)⟩,fun D hD C s2 fp=>?_⟩
   refine aBT (K:=K) (a:=pf) (xs:=ys) (fun i σ H3=>∃ (o1 o2 o3 o4:Option V) (zs:List V),σ=[o1,o2,o3,o4,some (.ref pe)]/\Same H1 H3/\H3 D=some (.lst zs)/\AH (Bp H3) zs (yy ((splS (c.take k)).take i) t))
    ⟨none,none,none,none,[],rfl,Same.new hD,zC,.nil⟩ (fun i σ H3 ⟨_,_,_,_,_,_,g,_⟩=>SqL.of (g _ _ (s1 _ _ gf))) ?_ ?_
   ·rintro i x σ H3 hi ⟨o1,o2,o3,o4,zs,rfl,s3,g3,pz⟩
    obtain ⟨⟨u,v⟩,hx,hw⟩:=zq pys hi
    obtain ⟨qx,v1,v2,rfl,gq,b1,b2⟩:=(hw.kt (KT.same s1)).kt (KT.same s3)
    have hil:i < ys.length:=(Aq.mp hi).1
    have hS:Spl u v (c.take k):=mem_splS.mp (Au hx)
    have lu:u.length<=4:=by have:=hS.len; rw [Bz] at this; lia
    have lv:v.length<=4:=by have:=hS.len; rw [Bz] at this; lia
    refine ⟨qx,_,rfl,SqT.of gq,rfl,_,_,rfl,_,_,rfl,rfl,?_⟩
    refine ⟨_,rfl,pe,rfl,⟨_,SqT.of (s3 _ _ ge)⟩,aID (K:=K) (a:=pe) (zs:=es) (fun j σ H4=>∃ (o3 o4:Option V) (zs:List V),σ=[some v1,some v2,o3,o4,some (.ref pe)]/\Same H1 H4/\H4 D=some (.lst zs)/\Bs H4 v1 u/\Bs H4 v2 v /\
     AH (Bp H4) zs (yy ((splS (c.take k)).take i) t++((jB t).take j).map fun e=>(u++[e.1],v++[e.2]))) ⟨o3,o4,zs,rfl,s3,g3,b1,b2,by rw [CI,BX,AM]; exact pz⟩ (fun j σ H4 ⟨_,_,_,_,g,_⟩=>SqT.of (g _ _ ge)) ?_ ?_⟩
    ·rintro j y σ H4 hj ⟨o3,o4,zs,rfl,s4,g4,c1,c2,pz4⟩
     obtain ⟨⟨e1,e2⟩,he,qe,rfl,gqe⟩:=zq pes hj
     have hjl:j < (jB t).length:=(Aq.mp he).1
     have zl:zs.length<=40:=by
      rw [pz4.length,Ai,Ah]
      have h1:=aEn ((splS (c.take k)).take i) t
      have h2:((splS (c.take k)).take i).length<=16:=by rw [Bz,<- pys.length]; lia
      have h3:((jB t).take j).length<=2:=by rw [Bz]; lia
      lia
     refine ⟨qe,_,rfl,SqT.of (s4 _ _ gqe),rfl,_,_,rfl,_,_,rfl,rfl,?_⟩
     obtain ⟨qu,rfl,gu⟩:=id c1
     obtain ⟨qv,rfl,gv⟩:=id c2
     refine ⟨_,rfl,_,rfl,(by show 1<=sizeLine; decide),fun pu hpu=>?_⟩
     have su:=Same.new (o:=.tup [.bl e1]) hpu
     refine ⟨qu,pu,_,_,rfl,rfl,su _ _ gu,zC,by rw [Ah]; show u.length + 1<=_; lia,fun pp H5 s5 g5=>?_⟩
     have s45:=su.trans s5
     refine ⟨_,rfl,_,rfl,(by show 1<=sizeLine; decide),fun pw hpw=>?_⟩
     have sw:=Same.new (o:=.tup [.bl e2]) hpw
     refine ⟨qv,pw,_,_,rfl,rfl,sw _ _ (s45 _ _ gv),zC,by rw [Ah]; show v.length + 1<=_; lia,fun pq H6 s6 g6=>?_⟩
     have s56:=sw.trans s6
     refine ⟨(by show 2<=sizeLine; decide),fun pn hpn=>?_⟩
     have s46:=(s45.trans s56).trans (Same.new (o:=.tup [.ref pp,.ref pq]) hpn)
     have g7:=s46 _ _ g4
     have kt7:KT (upd H6 pn (.tup [.ref pp,.ref pq])) (upd (upd H6 pn (.tup [.ref pp,.ref pq])) D (.lst (zs++[.ref pn]))):=KT.upd g7
     have kt8:=KT.trans (KT.same s46) kt7
     refine ⟨zs,g7,by rw [szl]; lia,_,_,zs++[.ref pn],rfl,zf (s4.trans s46) hD,zC,c1.kt kt8,c2.kt kt8,?_⟩
     rw [zO he,Bh,<- By]
     refine yG (aEf (R:=Bp) (fun v x h=>h.kt kt8) pz4) ⟨pn,.ref pp,.ref pq,rfl,kt7 _ _ zC,⟨pp,rfl,?_⟩,⟨pq,rfl,?_⟩⟩
     ·have:=kt7 _ _ (Same.new hpn _ _ (s56 _ _ g5))
      rw [this]
      show _=some (HO.tup (MU V.bl (u++[e1])))
      rw [Bh]
      rfl
     ·have:=kt7 _ _ (Same.new hpn _ _ g6)
      rw [this]
      show _=some (HO.tup (MU V.bl (v++[e2])))
      rw [Bh]
      rfl
    ·rintro σ H4 ⟨o3,o4,zs,rfl,s4,g4,c1,c2,pz4⟩
     refine ⟨_,_,_,_,zs,rfl,s4,g4,?_⟩
     rw [pes.length,AE] at pz4
     rw [aDL hx]
     exact pz4
   ·rintro σ H3 ⟨o1,o2,o3,o4,zs,rfl,s3,g3,pz⟩
    refine ⟨some (.bl t),some (.ref pe),D,zs,rfl,sH.trans (s1.trans s3),zT (sH.trans s1) hD,g3,?_⟩
    have el:(splS (c.take k)).length=ys.length:=pys.length.symm
    rw [<- el,AE] at pz
    rw [zO ht,aG9]
    exact pz
  ·intro X' hX
   refine ⟨_,rfl,_,rfl,?_⟩
   cases t with
   | true =>
    refine iteT ⟨(by show 2<=sizeLine; decide),fun pa hpa=>⟨(by show 2<=sizeLine; decide),fun pb hpb=>⟨(by show 2<=sizeLine; decide),fun pe hpe=>?_⟩⟩⟩
    have se:=Same.new (o:=.tup [.ref pa,.ref pb]) hpe
    exact hX _ _ ⟨pe,_,rfl,(Same.new hpa).trans ((Same.new hpb).trans se),zC,.cons ⟨pa,rfl,se _ _ (Same.new hpb _ _ zC)⟩ (.cons ⟨pb,rfl,se _ _ zC⟩ .nil)⟩
   | false =>
    refine iteF ⟨(by show 2<=sizeLine; decide),fun pa hpa=>⟨(by show 1<=sizeLine; decide),fun pe hpe=>?_⟩⟩
    have se:=Same.new (o:=.tup [.ref pa]) hpe
    exact hX _ _ ⟨pe,_,rfl,(Same.new hpa).trans se,zC,.cons ⟨pa,rfl,se _ _ zC⟩ .nil⟩
 ·rintro σ H2 ⟨z1,z2,pf,ys,rfl,sH,nf,gf,pys⟩
  rw [Ah,AE] at pys
  have yl:ys.length<=16:=by rw [pys.length]; exact sp16 hc
  refine ⟨_,rfl,pf,rfl,⟨_,SqL.of gf⟩,fun D hD C s2 fp=>?_⟩
  refine qE (K:=K) (a:=pf) (xs:=ys) (fun i zs σ H3=>∃ (o1 o2:Option V),σ=[o1,o2]/\Same H2 H3/\AH (Bp H3) zs (((splS c).take i).filter fun p=>p.1.any id && p.2.any id))
   (fun i zs σ H3 ⟨_,_,_,g,_⟩=>SqL.of (g _ _ gf)) ⟨none,none,rfl,Same.new hD,.nil⟩ ?_ ?_
  ·rintro i x zs σ H3 hi hzl ⟨o1,o2,rfl,s3,pz⟩ g3
   obtain ⟨⟨u,v⟩,hx,hw⟩:=zq pys hi
   have hw3:=hw.kt (KT.same s3)
   obtain ⟨qx,v1,v2,rfl,gq,⟨qu,rfl,gu⟩,⟨qv,rfl,gv⟩⟩:=hw3
   have hil:i < ys.length:=(Aq.mp hi).1
   have ef:((splS c).take (i + 1)).filter (fun p=>p.1.any id && p.2.any id)=((splS c).take i).filter (fun p=>p.1.any id && p.2.any id)++(if (u.any id && v.any id)=true then [(u,v)] else []):=by
    rw [zO hx,Hu]
    congr 1
    simp only [IW,JE]
   refine ⟨qx,_,rfl,SqT.of gq,rfl,_,_,rfl,_,_,rfl,rfl,?_⟩
   refine ⟨_,rfl,qu,u,rfl,SqT.of gu,_,rfl,?_⟩
   cases hu:u.any id with
   | false =>
    rw [hu] at ef
    refine iteF (iteF ⟨zs,by lia,⟨_,_,rfl,s3,?_⟩,g3⟩)
    rw [ef]
    simpa using pz
   | true =>
    rw [hu] at ef
    refine iteT ⟨_,rfl,qv,v,rfl,SqT.of gv,_,rfl,?_⟩
    cases hv:v.any id with
    | false =>
     rw [hv] at ef
     refine iteF ⟨zs,by lia,⟨_,_,rfl,s3,?_⟩,g3⟩
     rw [ef]
     simpa using pz
    | true =>
     rw [hv] at ef
     refine iteT ⟨_,rfl,_,rfl,(by show 2<=sizeLine; decide),fun pn hpn=>?_⟩
     have sn:=Same.new (o:=.tup [.ref qu,.ref qv]) hpn
     have g7:=sn _ _ g3
     have kt7:KT (upd H3 pn (.tup [.ref qu,.ref qv])) (upd (upd H3 pn (.tup [.ref qu,.ref qv])) D (.lst (zs++[.ref pn]))):=KT.upd g7
     have kt8:=KT.trans (KT.same sn) kt7
     refine ⟨zs,g7,by rw [szl]; lia,zs++[.ref pn],by rw [Ai]; show zs.length + 1<=i + 1; lia,⟨_,_,rfl,zf (s3.trans sn) hD,?_⟩,zC⟩
     rw [ef]
     exact yG (aEf (R:=Bp) (fun v x h=>h.kt kt8) pz) ⟨pn,.ref qu,.ref qv,rfl,kt7 _ _ zC,⟨qu,rfl,kt8 _ _ gu⟩,⟨qv,rfl,kt8 _ _ gv⟩⟩
  ·rintro zs σ H3 ⟨o1,o2,rfl,s3,pz⟩ g3
   have el:(splS c).length=ys.length:=pys.length.symm
   rw [<- el,AE] at pz
   exact q D zs H3 (sH.trans s3) (zT sH hD) g3 pz
end
section
variable {P:At} {w:AV} {K:Af} {mg:Str->Option Value} {base:Heap}
theorem aL2 {X:Cx} {K:Af} {o e:Expr} {es:List Expr} {to:TE} {t:TA} {name:Str} {apos cpos:Pos} {T id:String} {r:V->List V->Hp->VK->Prop} (hK:X.K=K) (pa:MG T) (slot:Slot T name id) (hty:typeOf (.builtin id)=pure (.type "method_descriptor")) (hm:MtR X id r) (ho:PE X o to) (ha:PA X (e :: es) t)
  (hbase:EZ o name X.env (eval o X.env)=eval o X.env:=by rfl)
  (hfew:((Fe cpos (AW (e :: es) X.env)).all (fun x=>!x.1) && (MO cpos (Kn [] X.env)).all (fun x=>x.1.isSome)
   && decide ((e :: es).length + ([]:List Jh).length + (if ([]:List Jh).isEmpty then 0 else 1) < 30))=true:=by rfl)
  (hline:(apos.endLine == cpos.line)=true:=by rfl) (hs:AW (e :: es) X.env=(false,eval e X.env) :: AW es X.env:=by rfl) (hplain:(Fe cpos (AW es X.env)).any (·.1)=false:=by rfl) :
  PE X (.Call (.Attribute o name apos) (e :: es) [] cpos) (tBM K T r to t):=hK ▸ aAq pa slot hty hm ho ha hbase hfew hline hs hplain
noncomputable def tTru (K:Af) (ta:TE):TT:=fun σ H Q=>ta σ H fun x H'=>∃ k,TruV K x H' k/\Q k H'
theorem aIP {X:Cx} {a:Expr} {ta:TE} (ha:PE X a ta) (he:∀ whole,isTrue a X.env whole=(do let v <- whole; Ft a.pos; Iq [v] (truthy v))):PT X a (tTru X.K ta):=aBE ha he
theorem aAd:∀ {a:List Int} {b:List Bool} (n:Int) (t:Bool),a.length=b.length->zJ (a++[n]) (b++[t])=zJ a b++(if t=true then [n] else [])
 | [],[],n,t,_=>by cases t <;> rfl
 | x :: a,y :: b,n,t,h=>by
  have ih:=aAd (a:=a) (b:=b) n t (by simpa using h)
  cases y
  ·rw [Fs,Fs,yx,yx,ih]
  ·rw [Fs,Fs,qp,qp,ih]; rfl
noncomputable def aL3:Sp:=fun vs H Q _=>∃ (a b:Addr) (ns:List Int) (c:List Bool),vs=[.ref a,.ref b]/\H a=some (.tup (ns.map V.int))/\Rd H b (.tup (c.map V.bl))/\ns.length=c.length/\ns.length<=4 /\
 ∀ (p:Addr) (H':Hp),Same H H'->H p=none->H' p=some (.tup ((zJ ns c).map V.int))->Q (.ref p) H'
theorem jH {α:Type} {f:α->V} {l:List α} {i:Nat} {x:V} (h:(l.map f)[i]?=some x):∃ y,l[i]?=some y/\f y=x:=by
 rw [AO] at h
 cases e:l[i]? with
 | none=>rw [e] at h; cases h
 | some n=>rw [e] at h; exact ⟨n,rfl,by simpa using h⟩
noncomputable abbrev yM:Stmt:=top 24
theorem aCc:FnScope ["numbers","choice"] ["numbers","choice"] (zG yM):=⟨rfl,rfl,rfl,by decide +kernel,rfl,by decide +kernel,by decide +kernel⟩
theorem aL4 {f:Addr} {fd:Bu} (F:Fun K "chosen_of" "chosen_of" yM f fd) (B:Blt mg):FnOk P w K mg base CX0 1 f fd ["numbers","choice"] aL3:=by
 refine F.ok (k:=0) aCc (fun vs H Q E h=>?_) (fun cdv A outer s H vs Q E hr h=>?_)
 ·obtain ⟨a,b,ns,c,rfl,_⟩:=h
  rfl
 obtain ⟨a,b,ns,c,rfl,ha,hb,hl,h4,q⟩:=h
 refine ⟨_,(zI (zV (yj yD rfl B.tuple qO (zB (yT (N:=["number","truth"]) rfl (yn [none,none] rfl (by decide +kernel) (by decide +kernel) rfl rfl) rfl (aKK B.zip (zB (pv 0) (zB (pv 1) zE))) (fun _ _ _ _=>(qA rfl (zP (zK (i:=0) (show (["number","truth"]:List Str).Nodup by decide +kernel) rfl (by first | exact Bc rfl | exact Ba rfl)) (zP (zK (i:=1) (show (["number","truth"]:List Str).Nodup by decide +kernel) rfl (by first | exact Bc rfl | exact Ba rfl)) yK)))) (fun _ _ _ _=>(qX (aIP (pv 1) (fun _=>rfl)))) (fun _ _ _ _=>(pv 0))) zE)))),?_⟩
 try dsimp only [Cx.nox,kx1,kx2,kx3,kx4,kx5,kx6,kx7,kx8,kx9,kxa,kxb,kxc]
 have szl:=Bb
 refine ⟨_,rfl,_,rfl,a,b,rfl,⟨_,SqT.of ha⟩,⟨_,.inl hb⟩,fun D hD C s2 fp=>?_⟩
 refine aHE (K:=K) (p:=a) (q:=b) (xs:=ns.map V.int) (ys:=c.map V.bl) (fun i zs σ H3=>∃ (o1 o2:Option V),σ=[o1,o2]/\Same H H3/\zs=(zJ (ns.take i) (c.take i)).map V.int)
  (fun i zs σ H3 ⟨_,_,_,g,_⟩=>⟨SqT.of (g _ _ ha),.inl (jG g hb)⟩) (by rw [Ah,Ah,hl]) ⟨none,none,rfl,Same.new hD,rfl⟩ ?_ ?_
 ·rintro i T x y zs σ H3 hi hj hzl ⟨o1,o2,rfl,s3,rfl⟩ g3 hT
  obtain ⟨n,hn,rfl⟩:=jH hi
  obtain ⟨t,ht,rfl⟩:=jH hj
  have hil:=(Aq.mp hn).1
  have sT:=Same.new (o:=.tup [V.int n,V.bl t]) hT
  have ec:zJ (ns.take (i + 1)) (c.take (i + 1))=zJ (ns.take i) (c.take i)++(if t=true then [n] else []):=by
   rw [zO hn,zO ht,aAd _ _ (by rw [Bz,Bz,hl])]
  refine ⟨T,_,rfl,SqT.of zC,rfl,_,_,rfl,_,_,rfl,rfl,?_⟩
  refine ⟨_,rfl,t,rfl,?_⟩
  cases t with
  | false =>
   refine iteF ⟨_,DO hzl,⟨_,_,rfl,s3.trans sT,?_⟩,sT _ _ g3⟩
   rw [ec]
   simp
  | true =>
   refine iteT ⟨_,rfl,_,sT _ _ g3,by rw [szl]; lia,_,by rw [Ai]; exact CJ hzl,⟨_,_,rfl,zf (s3.trans sT) hD,?_⟩,zC⟩
   rw [ec,Bh]
   rfl
 ·rintro zs σ H3 ⟨o1,o2,rfl,s3,rfl⟩ g3
  rw [Ah] at g3
  rw [AE,hl,AE] at g3
  refine ⟨D,_,rfl,.inl ⟨SqL.of g3,fun p hp=>?_⟩⟩
  exact q p _ (s3.trans (Same.new hp)) (zT s3 hp) zC
noncomputable abbrev Dd:=Str×Int×Int×Int
noncomputable def D4 (H:Hp) (v:V) (d:Dd):Prop:=∃ q,v=.ref q/\H q=some (.tup [.str d.1,.int d.2.1,.int d.2.2.1,.int d.2.2.2])
theorem D4.kt {H H':Hp} {v:V} {d:Dd} (k:KT H H') (h:D4 H v d):D4 H' v d:=by
 obtain ⟨q,h1,h2⟩:=h
 exact ⟨q,h1,k _ _ h2⟩
noncomputable def dW:List Str:=["plus","less","times","share"]
theorem aLw {i:Nat} {x:Str} (h:dW[i]?=some x):qI x:=by
 have:=Au h
 simpa [dW,qI] using this
noncomputable def one4 (x y:Int) (wd:Str):Option Dd:=match byE wd x y with
 | .inr z=>some (wd,x,y,z)
 | .inl _=>none
noncomputable def ddL (x y:Int):List Dd:=dW.filterMap (one4 x y)
noncomputable def dbL (xs ys:List Int):List Dd:=xs.flatMap fun x=>ys.flatMap fun y=>ddL x y
theorem aGg {α β:Type} (f:α->List β) (m:Nat):∀ l:List α,(∀ x∈l,(f x).length<=m)->(l.flatMap f).length<=l.length * m
 | [],_=>AL _
 | x :: l,h=>by
  rw [Bm,Ai,AJ,Hs]
  have h1:=h x (by simp)
  have h2:=aGg f m l fun y hy=>h y (by simp [hy])
  lia
theorem aDM (x y:Int) (k:Nat):((dW.take k).filterMap (one4 x y)).length<=4:=Ay (List.length_filterMap_le _ _) (by rw [Bz]; show min k 4<=4; lia)
theorem aJT (xs ys:List Int):(dbL xs ys).length<=xs.length * (ys.length * 4):=aGg _ _ _ fun x _=>aGg _ _ _ fun y _=>aDM x y 4
noncomputable def spDb:Sp:=fun vs H Q _=>∃ (a b:Addr) (xs ys:List Int),vs=[.ref a,.ref b]/\H a=some (.tup (xs.map V.int))/\H b=some (.tup (ys.map V.int))/\xs.length<=400/\ys.length<=400/\(∀ x∈xs,1<=x/\x < 2 ^ 90)/\(∀ y∈ys,1<=y/\y < 2 ^ 90) /\
 ∀ (p:Addr) (zs:List V) (H':Hp),Same H H'->H p=none->H' p=some (.lst zs)->AH (D4 H') zs (dbL xs ys)->Q (.ref p) H'
theorem p90 {x:Int} (h:x < 2 ^ 90):x < 2 ^ 4000:=Nr h (by
 have:(2:Nat) ^ 90 < 2 ^ 4000:=Nat.pow_lt_pow_right (by decide) (by decide)
 exact_mod_cast this)
variable {W N:Addr} {bN:List Value}
noncomputable abbrev zh:Stmt:=top 13
theorem sc_deeds_between:FnScope ["firsts","seconds","deeds","first","second","word"] ["firsts","seconds"] (zG zh):=⟨rfl,rfl,rfl,by decide +kernel,rfl,by decide +kernel,by decide +kernel⟩
theorem aLx {f dD:Addr} {fam:Str->Addr} {fd:Bu} (F:Fun K "deeds_between" "deeds_between" zh f fd) (R:Refs P w K mg base W N bN) (De:DeedsX P w K mg base N dD fam) (TK:aDB w K dD dW) (Gwb:Def P w K mg base (CXF P w) 5 "worth_by" (aKw N)):FnOk P w K mg base CX0 7 f fd ["firsts","seconds"] spDb:=by
 refine F.ok (k:=6) sc_deeds_between (fun vs H Q E h=>?_) (fun cdv A outer s H vs Q E hr h=>?_)
 ·obtain ⟨a,b,xs,ys,rfl,_⟩:=h
  rfl
 obtain ⟨a,b,xs,ys,rfl,ha,hb,lx,ly,hx,hy,q⟩:=h
 refine ⟨_,(zF (zS (i:=2) sc_deeds_between.nd rfl (by first | exact Bc rfl | exact Ba rfl) (yV zE))
   (zF (yH BD rfl (aAH (pv 0)) (zK (i:=3) sc_deeds_between.nd rfl (by first | exact Bc rfl | exact Ba rfl)) (zI (yH BD rfl (aAH (pv 1)) (zK (i:=4) sc_deeds_between.nd rfl (by first | exact Bc rfl | exact Ba rfl)) (zI (yH BD rfl (aKj (aAG (v:=.ref dD) rfl De.gl rfl)) (zK (i:=5) sc_deeds_between.nd rfl (by first | exact Bc rfl | exact Ba rfl)) (zI (aJ2 rfl R.gN R.cN.xcls rfl rfl (fun EX pins=>(zI (yJ (aL2 (K:=K) rfl BH Cv Cw yE (pv 2) (zB (yU (zB (pv 5) (zB (pv 3) (zB (pv 4) (zB (aIu Gwb (hr.mono (by lia)) (zB (pv 5) (zB (pv 3) (zB (pv 4) zE)))) zE))))) zE zt))))) (fun _ pins=>(zI aCj)))))))))
   (zI (zV (pv 2))))),?_⟩
 try dsimp only [Cx.nox,kx1,kx2,kx3,kx4,kx5,kx6,kx7,kx8,kx9,kxa,kxb,kxc]
 have szl:=Bb
 refine ⟨(by show 0<=sizeLine; decide),fun pd hpd=>?_⟩
 have sd:=Same.new (o:=.lst []) hpd
 refine ⟨_,rfl,a,rfl,⟨_,SqT.of (sd _ _ ha)⟩,aCl (K:=K) (a:=a) (xs:=xs.map V.int) (fun i σ H'=>∃ (z1 z2 z3:Option V) (zs:List V),σ=[some (.ref a),some (.ref b),some (.ref pd),z1,z2,z3]/\Same H H'/\H' pd=some (.lst zs)/\AH (D4 H') zs (dbL (xs.take i) ys))
  ⟨none,none,none,[],rfl,sd,zC,.nil⟩ (fun i σ H' _ ⟨_,_,_,_,_,g,_⟩=>SqT.of (g _ _ ha)) ?_ ?_⟩
 ·rintro i v σ H1 hi ⟨z1,z2,z3,zs,rfl,s1,g1,pz⟩
  obtain ⟨x,hxi,rfl⟩:=jH hi
  have hil:=(Aq.mp hxi).1
  obtain ⟨x1,x2⟩:=hx x (Au hxi)
  refine ⟨_,rfl,b,rfl,⟨_,SqT.of (s1 _ _ hb)⟩,aCl (K:=K) (a:=b) (xs:=ys.map V.int) (fun j σ H'=>∃ (z2 z3:Option V) (zs:List V),σ=[some (.ref a),some (.ref b),some (.ref pd),some (.int x),z2,z3]/\Same H H'/\H' pd=some (.lst zs)/\AH (D4 H') zs (dbL (xs.take i) ys++(ys.take j).flatMap (ddL x)))
   ⟨_,_,zs,rfl,s1,g1,by rw [CI,EC,AM]; exact pz⟩ (fun i σ H' _ ⟨_,_,_,_,g,_⟩=>SqT.of (g _ _ hb)) ?_ ?_⟩
  ·rintro j v σ H2 hj ⟨z2,z3,zs,rfl,s2,g2,pz⟩
   obtain ⟨y,hyj,rfl⟩:=jH hj
   have hjl:=(Aq.mp hyj).1
   obtain ⟨y1,y2⟩:=hy y (Au hyj)
   refine ⟨dD,dW,rfl,TK,aJC (ws:=dW) (fun k σ H'=>∃ (z3:Option V) (zs:List V),σ=[some (.ref a),some (.ref b),some (.ref pd),some (.int x),some (.int y),z3]/\Same H H'/\H' pd=some (.lst zs)/\AH (D4 H') zs ((dbL (xs.take i) ys++(ys.take j).flatMap (ddL x))++(dW.take k).filterMap (one4 x y)))
    ⟨_,zs,rfl,s2,g2,by rw [CI,List.filterMap_nil,AM]; exact pz⟩ ?_ ?_⟩
   ·rintro k wd σ H3 hk ⟨z3,zs,rfl,s3,g3,pz⟩
    have zl:zs.length<=640000:=by
     rw [pz.length,Ai,Ai]
     have h1:=aJT (xs.take i) ys
     have h2:((ys.take j).flatMap (ddL x)).length<=(ys.take j).length * 4:=aGg _ _ _ fun y _=>aDM x y 4
     have h3:=aDM x y k
     rw [Bz] at h1 h2
     have h4:min i xs.length * (ys.length * 4)<=399 * 1600:=Nat.mul_le_mul (by lia) (by lia)
     lia
    refine ⟨_,rfl,.inl ⟨rfl,_,SqL.of g3⟩,_,rfl,_,rfl,_,rfl,_,rfl,_,rfl,_,rfl,wd,x,y,rfl,aLw hk,x1,p90 x2,y1,p90 y2,?_⟩
    have ef:(dW.take (k + 1)).filterMap (one4 x y)=(dW.take k).filterMap (one4 x y)++(one4 x y wd).toList:=by
     rw [zO hk,List.filterMap_append]
     cases h:one4 x y wd <;> simp [Do,h]
    cases eb:byE wd x y with
    | inl e =>
     intro dx hdx
     refine ⟨⟨N,bN,rfl,R.cN.xcls,by simp⟩,?_⟩
     have sx:=Same.new (o:=xw e) hdx
     refine ⟨_,zs,rfl,s3.trans sx,sx _ _ g3,?_⟩
     have e4:one4 x y wd=none:=by unfold one4; rw [eb]
     rw [e4,Option.toList_none,AM] at ef
     rw [ef]
     exact aEf (R:=D4) (fun v x h=>h.kt (KT.same sx)) pz
    | inr z =>
     refine ⟨(by show 4<=sizeLine; decide),fun pt hpt=>?_⟩
     have st:=Same.new (o:=.tup [.str wd,.int x,.int y,.int z]) hpt
     have g4:=st _ _ g3
     refine ⟨pd,zs,_,rfl,rfl,g4,by rw [szl]; lia,?_⟩
     have kt7:KT (upd H3 pt (.tup [.str wd,.int x,.int y,.int z])) (upd (upd H3 pt (.tup [.str wd,.int x,.int y,.int z])) pd (.lst (zs++[.ref pt]))):=KT.upd g4
     refine ⟨_,zs++[.ref pt],rfl,zf (s3.trans st) hpd,zC,?_⟩
     have e4:one4 x y wd=some (wd,x,y,z):=by unfold one4; rw [eb]
     rw [e4] at ef
     rw [ef,<- By]
     exact yG (aEf (R:=D4) (fun v x h=>h.kt (KT.trans (KT.same st) kt7)) pz) ⟨pt,rfl,kt7 _ _ zC⟩
   ·rintro σ H3 ⟨z3,zs,rfl,s3,g3,pz⟩
    refine ⟨_,_,zs,rfl,s3,g3,?_⟩
    rw [zO hyj,BP,<- By]
    have:([y]:List Int).flatMap (ddL x)=dW.filterMap (one4 x y):=by simp [ddL]
    rw [this]
    exact pz
  ·rintro σ H2 ⟨z2,z3,zs,rfl,s2,g2,pz⟩
   rw [Ah,AE] at pz
   refine ⟨_,_,_,zs,rfl,s2,g2,?_⟩
   have:dbL (xs.take (i + 1)) ys=dbL (xs.take i) ys++ys.flatMap (ddL x):=by
    unfold dbL
    rw [zO hxi,BP]
    simp
   rw [this]
   exact pz
 ·rintro σ H1 ⟨z1,z2,z3,zs,rfl,s1,g1,pz⟩
  rw [Ah,AE] at pz
  exact ⟨_,rfl,q pd zs H1 s1 hpd g1 pz⟩
end
section
variable {P:At} {w:AV} {K:Af} {mg:Str->Option Value} {base:Heap}
theorem yt {α:Type} {l:List α} {i:Nat} {x:α} (h:l[i]?=some x) (p:α->Bool):(l.take (i + 1)).filter p=(l.take i).filter p++(if p x=true then [x] else []):=by
 rw [zO h,Hu,IW,JE]
theorem aJU {xs ys:List Int} {d:Dd} (h:d∈dbL xs ys):∃ x∈xs,∃ y∈ys,Deed x y d.2.2.2:=by
 obtain ⟨x,hx,h⟩:=AS.mp h
 obtain ⟨y,hy,h⟩:=AS.mp h
 obtain ⟨wd,hw,h⟩:=DY.mp h
 refine ⟨x,hx,y,hy,?_⟩
 unfold one4 byE at h
 unfold Deed
 split at h
 ·rename_i z e
  cases h
  show z=_\/(_/\z=_)\/z=_\/(_/\z=_)
  split at e
  ·cases e; exact .inl rfl
  ·split at e
   ·cases e; exact .inr (.inr (.inl rfl))
   ·split at e
    ·split at e
     ·rename_i h2
      cases e; exact .inr (.inl ⟨h2,rfl⟩)
     ·cases e
    ·split at e
     ·rename_i h2
      cases e; exact .inr (.inr (.inr ⟨h2,rfl⟩))
     ·cases e
 ·cases h
theorem aJV {xs ys:List Int} {x y m:Int} (hx:x∈xs) (hy:y∈ys) (h:Deed x y m):∃ d∈dbL xs ys,d.2.2.2=m:=by
 have put:∀ wd∈dW,byE wd x y=.inr m->∃ d∈dbL xs ys,d.2.2.2=m:=fun wd hw e =>
  ⟨(wd,x,y,m),AS.mpr ⟨x,hx,AS.mpr ⟨y,hy,DY.mpr ⟨wd,hw,by unfold one4; rw [e]⟩⟩⟩,rfl⟩
 rcases h with rfl | ⟨h,rfl⟩ | rfl | ⟨h,rfl⟩
 ·exact put "plus" (by simp [dW]) (by unfold byE; rw [if_pos rfl])
 ·exact put "less" (by simp [dW]) (by rw [aE8,if_pos h])
 ·exact put "times" (by simp [dW]) (by unfold byE; rw [if_neg (by decide +kernel),if_pos rfl])
 ·exact put "share" (by simp [dW]) (by rw [aCb,if_pos h])
noncomputable def RowV (H:Hp) (v:V) (r:List Int):Prop:=∃ q,v=.ref q/\H q=some (.tup (r.map V.int))
theorem RowV.kt {H H':Hp} {v:V} {r:List Int} (k:KT H H') (h:RowV H v r):RowV H' v r:=by
 obtain ⟨q,h1,h2⟩:=h
 exact ⟨q,h1,k _ _ h2⟩
noncomputable def Ent (ns:List Int) (H:Hp) (kv:List Bool×V) (c:List Bool):Prop:=kv.1=c/\RowV H kv.2 (rowF (zJ ns c))
theorem Ent.kt {ns:List Int} {H H':Hp} {kv:List Bool×V} {c:List Bool} (k:KT H H') (h:Ent ns H kv c):Ent ns H' kv c:=⟨h.1,h.2.kt k⟩
theorem aAe {ns:List Int} {H:Hp} {kvs:List (List Bool×V)} {cs:List (List Bool)} (h:AH (Ent ns H) kvs cs) {c:List Bool} (hc:c∈cs):∃ v,valV kvs c=some v/\RowV H v (rowF (zJ ns c)):=by
 induction h with
 | nil=>cases hc
 | @cons p d ps ds h t ih =>
  by_cases e:p.1=c
  ·exact ⟨p.2,jV e,by rw [<- e,h.1]; exact h.2⟩
  ·rw [jW e]
   rcases Aj.mp hc with hc | hc
   ·exact absurd (h.1.trans hc.symm) e
   ·exact ih hc
theorem aJW {ns:List Int} {H:Hp} {kvs:List (List Bool×V)} {cs:List (List Bool)} (h:AH (Ent ns H) kvs cs) {c:List Bool} (hc:c ∉ cs) (v:V):putK kvs c v=kvs++[(c,v)]:=by
 unfold putK
 rw [if_neg]
 intro z
 obtain ⟨kv,h1,h2⟩:=Ma.mp z
 have:∀ {kvs:List (List Bool×V)} {cs:List (List Bool)},AH (Ent ns H) kvs cs->kv∈kvs->kv.1∈cs:=by
  intro kvs cs h
  induction h with
  | nil=>intro z; cases z
  | cons h _ ih =>
   intro z
   rcases Aj.mp z with z | z
   ·rw [z,h.1]; exact Am
   ·exact Al _ (ih z)
 have:=this h h1
 rw [of_decide_eq_true h2] at this
 exact hc this
noncomputable def Nums (ns:List Int):Prop:=ns.length<=4/\∀ n∈ns,1<=n/\n<=1000000
theorem aE9 {ns:List Int} (h:Nums ns) (c:List Bool):∀ x∈rowF (zJ ns c),1<=x/\x < 2 ^ 90:=by
 have hl:(zJ ns c).length<=4:=Ay (zj ns c) h.1
 intro x hx
 have m:=((yY hl).2 x).mp hx
 exact ⟨m.pos,m.small hl fun n hn=>(h.2 n (yc hn)).2⟩
theorem aIQ {k:Nat} (h:k<=3):bnd k<=108:=by
 have:k=0\/k=1\/k=2\/k=3:=by lia
 rcases this with rfl | rfl | rfl | rfl <;> decide
theorem aJX (k:Nat):bnd k<=3240:=by
 unfold bnd
 split <;> decide
noncomputable def aEo (ns:List Int) (p:List Bool×List Bool):List Dd:=dbL (rowF (zJ ns p.1)) (rowF (zJ ns p.2))
theorem jZ {ns:List Int} {c:List Bool} (hN:Nums ns) (hl:ns.length=c.length) (h1:(zJ ns c).length≠1) {p:List Bool×List Bool} (hp:p∈zX c) {d:Dd} (hd:d∈aEo ns p):MetL (zJ ns c) d.2.2.2:=by
 obtain ⟨x,hx,y,hy,dd⟩:=aJU hd
 have l1:(zJ ns p.1).length<=4:=Ay (zj ns _) hN.1
 have l2:(zJ ns p.2).length<=4:=Ay (zj ns _) hN.1
 exact (aB2 hl h1).mpr ⟨p,hp,x,y,((yY l1).2 x).mp hx,((yY l2).2 y).mp hy,dd⟩
theorem aBm {ns:List Int} {c:List Bool} (hN:Nums ns) (hl:ns.length=c.length) (h1:(zJ ns c).length≠1) {m:Int} (h:MetL (zJ ns c) m):∃ p∈zX c,∃ d∈aEo ns p,d.2.2.2=m:=by
 obtain ⟨p,hp,x,y,hx,hy,dd⟩:=(aB2 hl h1).mp h
 have l1:(zJ ns p.1).length<=4:=Ay (zj ns _) hN.1
 have l2:(zJ ns p.2).length<=4:=Ay (zj ns _) hN.1
 obtain ⟨d,hd,e⟩:=aJV (((yY l1).2 x).mpr hx) (((yY l2).2 y).mpr hy) dd
 exact ⟨p,hp,d,hd,e⟩
theorem aEA {ns:List Int} {c:List Bool} (hN:Nums ns) (hl:ns.length=c.length) {p:List Bool×List Bool} (hp:p∈zX c):(rowF (zJ ns p.1)).length<=400/\(rowF (zJ ns p.2)).length<=400:=by
 obtain ⟨hs,h1,h2⟩:=mem_splits.mp hp
 have l:=hs.len
 have m:=(hs.mix ns hl).len
 have la:=zj ns c
 have n1:0 < (zJ ns p.1).length:=CV.mpr ((yo (by lia)).mpr h1)
 have n2:0 < (zJ ns p.2).length:=CV.mpr ((yo (by lia)).mpr h2)
 have:=hN.1
 exact ⟨Ay (aG8 (by lia)) (Ay (aIQ (by lia)) (by decide)),Ay (aG8 (by lia)) (Ay (aIQ (by lia)) (by decide))⟩
noncomputable def Few1 (ns:List Int):Prop:=∀ c:List Bool,c.length=ns.length->(rowF (zJ ns c)).length < 64
noncomputable def spRf (P:At) (w:AV):Sp:=fun vs H Q _=>∃ (a b d:Addr) (ns:List Int) (c:List Bool) (kvs:List (List Bool×V)) (cs:List (List Bool)),vs=[.ref a,.ref b,.ref d]/\H a=some (.tup (ns.map V.int))/\Rd H b (.tup (c.map V.bl))/\Nums ns/\Few1 ns/\ns.length=c.length/\c.any id=true /\
 Tb P w H d kvs/\AH (Ent ns H) kvs cs/\(∀ p∈zX c,p.1∈cs/\p.2∈cs)/\∀ (p:Addr) (H':Hp),Same H H'->H' p=some (.tup ((rowF (zJ ns c)).map V.int))->Q (.ref p) H'
noncomputable abbrev qK:Stmt:=top 27
theorem sc_row_for:FnScope ["numbers","choice","table","chosen","worths","one","rest","word","first","second","worth"] ["numbers","choice","table"] (zG qK):=⟨rfl,rfl,rfl,by decide +kernel,rfl,by decide +kernel,by decide +kernel⟩
theorem aLy {f:Addr} {fd:Bu} (F:Fun K "row_for" "row_for" qK f fd) (B:Blt mg) (Bset:mg "set"=none) (Bsorted:mg "sorted"=none) (Gcho:Def P w K mg base CX0 1 "chosen_of" aL3) (Gspl:Def P w K mg base CX0 1 "splits_of" (aHo K)) (Gdb:Def P w K mg base CX0 7 "deeds_between" spDb):FnOk P w K mg base CX0 9 f fd ["numbers","choice","table"] (spRf P w):=by
 refine F.ok (k:=8) sc_row_for (fun vs H Q E h=>?_) (fun cdv A outer s H vs Q E hr h=>?_)
 ·obtain ⟨a,b,d,ns,c,kvs,cs,rfl,_⟩:=h
  rfl
 obtain ⟨a,b,d,ns,c,kvs,cs,rfl,ha,hb,hN,hF,hl,hany,tb,pe,hsp,q⟩:=h
 refine ⟨_,(zF (zS (i:=3) sc_row_for.nd rfl (by first | exact Bc rfl | exact Ba rfl) (zU Gcho (hr.mono (by lia)) (zB (pv 0) (zB (pv 1) zE))))
   (zF (qw (zc aCn (zY zu rfl B.len aAv (zB (pv 3) zE)) zM (zn _)) (zI (zV (aDY (zc aK8 (jk aDc (pv 3) zM (fun _ _=>rfl)) zM (zn _)) (pv 3) (yU zE)))) yC)
   (zF (zS (i:=4) sc_row_for.nd rfl (by first | exact Bc rfl | exact Ba rfl) (aEM aGI rfl Bset aIF))
   (zF (yH BD rfl (zr (zU Gspl (hr.mono (by lia)) (zB (pv 1) zE))) (qA rfl (zP (zK (i:=5) sc_row_for.nd rfl (by first | exact Bc rfl | exact Ba rfl)) (zP (zK (i:=6) sc_row_for.nd rfl (by first | exact Bc rfl | exact Ba rfl)) yK))) (zI (yH BD rfl (zr (zU Gdb (hr.mono (by lia)) (zB (aE0 (aAM hr) (pv 2) (pv 5) (fun _ _=>rfl)) (zB (aE0 (aAM hr) (pv 2) (pv 6) (fun _ _=>rfl)) zE)))) (qA rfl (zP (zK (i:=7) sc_row_for.nd rfl (by first | exact Bc rfl | exact Ba rfl)) (zP (zK (i:=8) sc_row_for.nd rfl (by first | exact Bc rfl | exact Ba rfl)) (zP (zK (i:=9) sc_row_for.nd rfl (by first | exact Bc rfl | exact Ba rfl)) (zP (zK (i:=10) sc_row_for.nd rfl (by first | exact Bc rfl | exact Ba rfl)) yK))))) (zI (yJ (aGJ (pv 4) (pv 10) ⟨rfl,rfl,rfl,rfl⟩))))))
   (zI (zV (yj yD rfl B.tuple qO (zB (zY (aAX rfl) rfl Bsorted yk (zB (pv 4) zE)) zE)))))))),?_⟩
 try dsimp only [Cx.nox,kx1,kx2,kx3,kx4,kx5,kx6,kx7,kx8,kx9,kxa,kxb,kxc]
 have szl:=Bb
 have l4:(zJ ns c).length<=4:=Ay (zj ns c) hN.1
 have n0:0 < (zJ ns c).length:=CV.mpr ((yo hl).mpr hany)
 refine ⟨_,rfl,_,rfl,a,b,ns,c,rfl,ha,hb,hl,hN.1,fun pc H1 s1 n1 gc=>?_⟩
 dsimp only [aBC]
 refine ⟨_,rfl,pc,_,rfl,.inr (SqT.of gc),rfl,_,rfl,?_⟩
 by_cases h1:(zJ ns c).length=1
 ·refine (show (if _ then _ else _:Prop) from ?_)
  rw [if_pos (decide_eq_true (by rw [Ah,h1]; rfl))]
  obtain ⟨n,en⟩:∃ n,zJ ns c=[n]:=List.length_eq_one_iff.mp h1
  rw [en] at gc
  have hn:=hN.2 n (yc (c:=c) (by rw [en]; simp))
  refine ⟨_,rfl,pc,_,0,_,rfl,rfl,SqT.of gc,rfl,_,_,rfl,rfl,_,rfl,?_⟩
  refine (show (if _ then _ else _:Prop) from ?_)
  rw [if_pos (decide_eq_true (show n >= 1 from hn.1))]
  refine ⟨_,rfl,q pc H1 s1 ?_⟩
  rw [en,aD5 hn.1]
  exact gc
 ·refine (show (if _ then _ else _:Prop) from ?_)
  rw [if_neg (by rw [Ah]; intro z; have:=of_decide_eq_true z; injection this with this; lia)]
  refine ⟨rfl,fun pw hpw=>?_⟩
  have sw:=Same.new (o:=SeO P w pw []) hpw
  have nw:=zT s1 hpw
  refine ⟨_,rfl,b,c,rfl,jG (s1.trans sw) hb,by have:=hN.1; lia,fun ps ys H2 s2 _ gs pys=>?_⟩
  have sH2:=(s1.trans sw).trans s2
  have g2:=s2 _ _ (show (upd H1 pw (SeO P w pw [])) pw=some (SeO P w pw []) from zC)
  refine ⟨ps,rfl,⟨_,SqL.of gs⟩,qN (K:=K) (a:=ps) (xs:=ys) (fun i σ H'=>∃ (z1 z2 z3 z4 z5 z6:Option V) (ks:List Int),σ=[some (.ref a),some (.ref b),some (.ref d),some (.ref pc),some (.ref pw),z1,z2,z3,z4,z5,z6]/\Same H H'/\Keep [pw] H2 H'/\H' pw=some (SeO P w pw ks)/\ks.Nodup/\∀ m,m∈ks↔∃ p∈(zX c).take i,∃ d∈aEo ns p,d.2.2.2=m)
   ⟨none,none,none,none,none,none,[],rfl,sH2,Keep.refl _ _,g2,Dc,fun m=>by simp⟩ (fun i σ H' _ ⟨_,_,_,_,_,_,_,_,_,k,_⟩=>SqL.of (k _ _ gs (fun z=>?_))) ?_ ?_⟩
  ·rw [Ae.mp z,g2] at gs; cases gs
  ·rintro i x σ H3 hi ⟨z1,z2,z3,z4,z5,z6,ks,rfl,s3,k3,g3,nd,hm⟩
   have nsp:∀ {b:Addr} {xs:List V},H2 b=some (.tup xs)->b ∉ [pw]:=fun {b xs} e z=>by
    rw [Ae.mp z,g2] at e; cases e
   obtain ⟨p,hp,hw⟩:=zq pys hi
   have hps:p∈zX c:=Au hp
   obtain ⟨qx,u1,u2,rfl,gq,⟨q1,rfl,gq1⟩,⟨q2,rfl,gq2⟩⟩:=hw
   have kq:=k3 _ _ gq (nsp gq)
   have kq1:=k3 _ _ gq1 (nsp gq1)
   have kq2:=k3 _ _ gq2 (nsp gq2)
   have tb3:Tb P w H3 d kvs:=tb.same s3
   have pe3:AH (Ent ns H3) kvs cs:=Paired.mapP pe fun _ _ h=>h.kt (KT.same s3)
   obtain ⟨v1,e1,r1,rfl,gr1⟩:=aAe pe3 (hsp p hps).1
   obtain ⟨v2,e2,r2,rfl,gr2⟩:=aAe pe3 (hsp p hps).2
   obtain ⟨ll1,ll2⟩:=aEA hN hl hps
   refine ⟨qx,_,rfl,SqT.of kq,rfl,_,_,rfl,_,_,rfl,rfl,?_⟩
   refine ⟨_,rfl,_,rfl,d,q1,kvs,p.1,_,rfl,rfl,tb3,.inl kq1,e1,_,rfl,_,rfl,d,q2,kvs,p.2,_,rfl,rfl,tb3,.inl kq2,e2,?_⟩
   refine ⟨r1,r2,_,_,rfl,gr1,gr2,ll1,ll2,aE9 hN _,aE9 hN _,fun pz zs H4 s4 _ gz pzs=>?_⟩
   have pzs':AH (D4 H4) zs (aEo ns p):=pzs
   refine ⟨pz,rfl,⟨_,SqL.of gz⟩,qN (K:=K) (a:=pz) (xs:=zs) (fun j σ H'=>∃ (z3 z4 z5 z6:Option V) (ks:List Int),σ=[some (.ref a),some (.ref b),some (.ref d),some (.ref pc),some (.ref pw),some (.ref q1),some (.ref q2),z3,z4,z5,z6]/\Same H H'/\Keep [pw] H4 H'/\H' pw=some (SeO P w pw ks)/\ks.Nodup/\∀ m,m∈ks↔(∃ p∈(zX c).take i,∃ d∈aEo ns p,d.2.2.2=m)\/∃ d∈(aEo ns p).take j,d.2.2.2=m)
    ⟨_,_,_,_,ks,rfl,s3.trans s4,Keep.refl _ _,s4 _ _ g3,nd,fun m=>by rw [hm]; simp⟩ (fun i σ H' _ ⟨_,_,_,_,_,_,_,k,_⟩=>SqL.of (k _ _ gz (fun z=>?_))) ?_ ?_⟩
   ·rw [Ae.mp z,s4 _ _ g3] at gz; cases gz
   ·rintro j y σ H5 hj ⟨z3,z4,z5,z6,ks5,rfl,s5,k5,g5,nd5,hm5⟩
    obtain ⟨dd,hd,qd,rfl,gd⟩:=zq pzs' hj
    have kd:=k5 _ _ gd (fun z=>by rw [Ae.mp z,s4 _ _ g3] at gd; cases gd)
    have hall:∀ m∈ks5,MetL (zJ ns c) m:=fun m h=>by
     rcases (hm5 m).mp h with ⟨p',hp',d',hd',rfl⟩ | ⟨d',hd',rfl⟩
     ·exact jZ hN hl h1 (CN hp') hd'
     ·exact jZ hN hl h1 hps (CN hd')
    have hlen:ks5.length<=3240:=Ay (aG7 l4 nd5 hall) (aJX _)
    refine ⟨qd,_,rfl,SqT.of kd,rfl,_,_,rfl,_,_,rfl,_,_,rfl,_,_,rfl,rfl,?_⟩
    refine ⟨_,rfl,pw,ks5,rfl,g5,_,rfl,ks5,_,g5,rfl,by lia,?_⟩
    refine ⟨_,_,_,_,_,rfl,zf s5 nw,fun b o e n=>?_,zC,jr nd5,fun m=>?_⟩
    ·rw [zH (fun z=>n (by rw [z]; simp))]; exact k5 b o e n
    ·rw [aBW,hm5,zO hd]
     simp only [Bj,Ae]
     constructor
     ·rintro ((h | ⟨d',h1,h2⟩) | h)
      ·exact .inl h
      ·exact .inr ⟨d',.inl h1,h2⟩
      ·exact .inr ⟨dd,.inr rfl,h.symm⟩
     ·rintro (h | ⟨d',h1 | h1,h2⟩)
      ·exact .inl (.inl h)
      ·exact .inl (.inr ⟨d',h1,h2⟩)
      ·exact .inr (by rw [<- h2,h1])
   ·rintro σ H5 ⟨z3,z4,z5,z6,ks5,rfl,s5,k5,g5,nd5,hm5⟩
    refine ⟨_,_,_,_,_,_,ks5,rfl,s5,fun b o e n=>k5 b o (s4 _ _ (k3 b o e n)) n,g5,nd5,fun m=>?_⟩
    rw [hm5,pzs'.length,AE,zO hp]
    simp only [Bj,Ae]
    constructor
    ·rintro (⟨p',h1,h2⟩ | h)
     ·exact ⟨p',.inl h1,h2⟩
     ·exact ⟨p,.inr rfl,h⟩
    ·rintro ⟨p',h1 | h1,h2⟩
     ·exact .inl ⟨p',h1,h2⟩
     ·exact .inr (by rw [<- h1]; exact h2)
  ·rintro σ H3 ⟨z1,z2,z3,z4,z5,z6,ks,rfl,s3,k3,g3,nd,hm⟩
   rw [pys.length,AE] at hm
   have k64:ks.length < 64:=DZ (qf nd fun m h=>((yY l4).2 m).mpr (by obtain ⟨p,hp,d,hd,rfl⟩:=(hm m).mp h; exact jZ hN hl h1 hp hd)) (hF c hl.symm)
   refine ⟨_,rfl,pw,ks,rfl,g3,k64,fun pl ms H4 s4 _ gl hs hms=>?_⟩
   have em:ms=rowF (zJ ns c):=RowOf.one (Pd:=MetL (zJ ns c)) ⟨hs,fun m=>by
    rw [hms,hm]
    constructor
    ·rintro ⟨p,hp,d,hd,rfl⟩; exact jZ hN hl h1 hp hd
    ·intro h; exact aBm hN hl h1 h⟩ (yY l4)
   subst em
   refine ⟨pl,_,rfl,.inl ⟨SqL.of gl,fun pt hpt=>?_⟩⟩
   exact q pt _ (s3.trans (s4.trans (Same.new hpt))) zC
noncomputable def aJY (P:At) (w:AV):Sp:=fun vs H Q _=>∃ (a:Addr) (ns:List Int),vs=[.ref a]/\H a=some (.tup (ns.map V.int))/\Nums ns/\Few1 ns/\∀ (p:Addr) (kvs:List (List Bool×V)) (H':Hp),Same H H'->H p=none->Tb P w H' p kvs->AH (Ent ns H') kvs ((chL ns.length).filter (·.any id))->Q (.ref p) H'
theorem aLz {H:Hp} {d b:Addr} {kvs:List (List Bool×V)} {xs:List V} (t:Tb P w H d kvs) (h:H b=some (.tup xs)):b≠d:=by
 obtain ⟨ys,e,_⟩:=t
 intro z
 rw [z,e] at h
 cases h
theorem aL5 {H:Hp} {d b:Addr} {kvs:List (List Bool×V)} {xs:List V} (t:Tb P w H d kvs) (h:H b=some (.lst xs)):b≠d:=by
 obtain ⟨ys,e,_⟩:=t
 intro z
 rw [z,e] at h
 cases h
theorem aL6 {H:Hp} {d b:Addr} {o:Obj} {kvs:List (List Bool×V)} {xs:List V} (t:Tb P w H d kvs) (h:H b=some (.frz o (.tup xs))):b≠d:=by
 obtain ⟨ys,e,_⟩:=t
 intro z
 rw [z,e] at h
 cases h
noncomputable abbrev yg:Stmt:=top 26
theorem sc_table_of:FnScope ["numbers","table","choice"] ["numbers"] (zG yg):=⟨rfl,rfl,rfl,by decide +kernel,rfl,by decide +kernel,by decide +kernel⟩
theorem aL7 {f:Addr} {fd:Bu} (F:Fun K "table_of" "table_of" yg f fd) (B:Blt mg) (Bany:mg "any"=none) (Gchs:Def P w K mg base CX0 1 "choices_of" aKz) (Grf:Def P w K mg base CX0 9 "row_for" (spRf P w)):FnOk P w K mg base CX0 10 f fd ["numbers"] (aJY P w):=by
 refine F.ok (k:=9) sc_table_of (fun vs H Q E h=>?_) (fun cdv A outer s H vs Q E hr h=>?_)
 ·obtain ⟨a,ns,rfl,_⟩:=h
  rfl
 obtain ⟨a,ns,rfl,ha,hN,hF,q⟩:=h
 refine ⟨_,(zF (zS (i:=1) sc_table_of.nd rfl (by first | exact Bc rfl | exact Ba rfl) aHR)
   (zF (yH BD rfl (zr (zU Gchs (hr.mono (by lia)) (zB (zY zu rfl B.len aAv (zB (pv 0) zE)) zE))) (zK (i:=2) sc_table_of.nd rfl (by first | exact Bc rfl | exact Ba rfl)) (zI (qw (aBv (zY (aAZ rfl) rfl Bany aFj (zB (pv 2) zE))) (zI (aHS (aAM hr) (pv 1) (pv 2) (zU Grf (hr.mono (by lia)) (zB (pv 0) (zB (pv 2) (zB (pv 1) zE)))) rfl)) yC)))
   (zI (zV (pv 1))))),?_⟩
 try dsimp only [Cx.nox,kx1,kx2,kx3,kx4,kx5,kx6,kx7,kx8,kx9,kxa,kxb,kxc]
 have szl:=Bb
 refine fun pd hpd hsy=>?_
 have sd:=Same.new (o:=DbO P w pd []) hpd
 have t0:Tb P w (upd H pd (DbO P w pd [])) pd []:=Tb.new hsy
 refine ⟨_,rfl,a,_,rfl,.inr (SqT.of (sd _ _ ha)),ns.length,by rw [Ah]; rfl,hN.1,fun pc ys H2 s2 npc gc pys=>?_⟩
 have sH2:=sd.trans s2
 have t2:=t0.same s2
 refine ⟨pc,rfl,⟨_,SqL.of gc⟩,qN (K:=K) (a:=pc) (xs:=ys) (fun i σ H'=>∃ (z:Option V) (kvs:List (List Bool×V)),σ=[some (.ref a),some (.ref pd),z]/\Same H H'/\Keep [pd] H2 H'/\Tb P w H' pd kvs/\AH (Ent ns H') kvs (((chL ns.length).take i).filter (·.any id)))
  ⟨none,[],rfl,sH2,Keep.refl _ _,t2,.nil⟩ (fun i σ H' _ ⟨_,_,_,_,k,_⟩=>SqL.of (k _ _ gc (fun z=>aL5 t2 gc (Ae.mp z)))) ?_ ?_⟩
 ·rintro i x σ H3 hi ⟨z,kvs,rfl,s3,k3,t3,pe⟩
  obtain ⟨c,hc,qc,rfl,gq⟩:=zq pys hi
  have kq:Kb H3 qc c:=let ⟨o,e,d⟩:=gq; ⟨o,k3 _ _ e (fun z=>aL6 t2 e (Ae.mp z)),d⟩
  have cl:c.length=ns.length:=jt _ c (Au hc)
  have hil:i < 2 ^ ns.length:=by rw [<- yd]; exact (Aq.mp hc).1
  have ef:((chL ns.length).take (i + 1)).filter (·.any id)=((chL ns.length).take i).filter (·.any id)++(if c.any id=true then [c] else []):=yt hc _
  refine ⟨_,rfl,qc,c,rfl,.inl kq.rd,_,rfl,?_⟩
  cases hany:c.any id with
  | false =>
   rw [hany,if_neg (by decide),AM] at ef
   refine iteF ⟨_,kvs,rfl,s3,k3,t3,?_⟩
   rw [ef]
   exact pe
  | true =>
   rw [hany,if_pos rfl] at ef
   have hsub:∀ p∈zX c,p.1∈((chL ns.length).take i).filter (·.any id)/\p.2∈((chL ns.length).take i).filter (·.any id):=fun p hp=>by
    obtain ⟨h1,h2⟩:=aLq hN.1 hc hp
    obtain ⟨_,a1,a2⟩:=mem_splits.mp hp
    exact ⟨Bi.mpr ⟨h1,a1⟩,Bi.mpr ⟨h2,a2⟩⟩
   have hnot:c ∉ ((chL ns.length).take i).filter (·.any id):=fun z=>by
    have h1:=(Bi.mp z).1
    have nd:=aGB ns.length hN.1
    have nd2:((chL ns.length).take (i + 1)).Nodup:=nd.sublist (Li _ _)
    rw [zO hc] at nd2
    exact (Gd.mp nd2).2.2 c h1 c (by simp) rfl
   have kl:kvs.length<=16:=by
    rw [pe.length]
    refine Ay (Gr _ _) ?_
    rw [Bz,yd]
    have:=pow2 hN.1
    lia
   refine iteT ⟨_,rfl,_,rfl,_,rfl,a,qc,pd,ns,c,kvs,_,rfl,s3 _ _ ha,kq.rd,hN,hF,cl.symm,hany,t3,pe,hsub,fun pr H4 s4 gr=>?_⟩
   refine ⟨_,rfl,_,rfl,pd,qc,kvs,c,rfl,rfl,t3.same s4,kq.same s4,by rw [szl]; lia,fun H5 k5 t5=>?_⟩
   rw [aJW pe hnot] at t5
   have kt5:KT H4 H5:=fun b xs e=>by rw [k5 b (aLz (t3.same s4) e)]; exact e
   refine ⟨_,_,rfl,fun b o e=>?_,fun b o e n=>?_,t5,?_⟩
   ·rw [k5 b (zD e hpd)]; exact s4 _ _ (s3 _ _ e)
   ·rw [k5 b (fun z=>n (by rw [z]; simp))]; exact s4 _ _ (k3 b o e n)
   ·rw [ef]
    exact yG (Paired.mapP pe fun _ _ h=>(h.kt (KT.same s4)).kt kt5) ⟨rfl,pr,rfl,kt5 _ _ gr⟩
 ·rintro σ H3 ⟨z,kvs,rfl,s3,k3,t3,pe⟩
  rw [pys.length,AE] at pe
  exact ⟨_,rfl,q pd kvs H3 s3 hpd t3 pe⟩
theorem jc {H H':Hp} {a:Addr} {xs:List V} (s:Same H H') (h:SqL K H a xs):SqL K H' a xs:=by
 rcases h with (h | ⟨o,h⟩) | h
 ·exact .inl (.inl (s _ _ h))
 ·exact .inl (.inr ⟨o,s _ _ h⟩)
 ·exact .inr h
noncomputable def kO:Option D->List Int
 | none=>[0]
 | some d=>kD d
noncomputable def sO:Option D->Nat
 | none=>1
 | some d=>sz d
noncomputable def sOs (l:List (Option D)):Nat:=(l.map sO).sum
inductive DatO (H:Hp):V->Option D->Prop
 | non:DatO H .non none
 | som {d:D} {v:V}:IsForm d->Dat H d v->DatO H v (some d)
theorem DatO.kt {H H':Hp} (k:KT H H') {o:Option D} {v:V} (h:DatO H v o):DatO H' v o:=by
 cases h with
 | non=>exact .non
 | som a b=>exact .som a (Dat.kt k _ b)
theorem aIR (o:Option D):1<=sO o:=by
 cases o with
 | none=>exact Ak _
 | some d=>exact aGY d
theorem jd (o:Option D) (r:List (Option D)):sOs (o :: r)=sO o + sOs r:=by unfold sOs; rw [AA,Ng]
theorem aGh (a b:List (Option D)):sOs (a++b)=sOs a + sOs b:=by unfold sOs; rw [Bh,List.sum_append]
theorem aBn:∀ l:List D,sOs (l.map some)<=szs l
 | []=>AL _
 | d :: r=>by
  have:=aBn r
  rw [AA,jd,szs]
  show sz d + _<=_
  lia
theorem aDN:∀ l:List (Option D),l.length<=sOs l
 | []=>AL _
 | o :: r=>by
  have:=aDN r
  have:=aIR o
  rw [jd,AJ]
  lia
theorem aDO:∀ l:List D,(l.map some).flatMap kO=kS l
 | []=>by rw [aE4]; rfl
 | d :: r=>by rw [AA,Bm,aDO r,jw]; rfl
theorem aAf {H:Hp}:∀ {l:List D} {xs:List V},(∀ x∈l,IsForm x)->Dats H l xs->AH (DatO H) xs (l.map some)
 | [],xs,_,h=>by rw [h.nilE]; exact .nil
 | d :: r,xs,hf,h=>by
  obtain ⟨x,t,rfl,h1,h2⟩:=h.consE
  exact .cons (.som (hf d (Am ..)) h1) (aAf (fun z hz=>hf z (Al _ hz)) h2)
noncomputable def aAg:Sp:=fun vs H Q _=>∃ (v:V) (d:D),vs=[v]/\Dat H d v/\IsForm d/\sz d<=400/\∀ (t:Addr) (H':Hp),Same H H'->H' t=some (.tup ((kD d).map V.int))->Q (.ref t) H'
noncomputable abbrev yh:Stmt:=top 22
theorem sc_order_of:FnScope ["form","order","waiting","part","kind","more","off"] ["form"] (zG yh):=⟨rfl,rfl,rfl,by decide +kernel,rfl,by decide +kernel,by decide +kernel⟩
theorem aHp {f dR:Addr} {fd:Bu} (F:Fun K "order_of" "order_of" yh f fd) (B:Blt mg) (mR:mg "RANKS"=some (.ref dR)) (TR:jm w K dR)
  (hR:∀ k:Str,(k="sum"\/k="product")->∃ t,As K dR k=some (some (.int (rkK k) t))):FnOk P w K mg base CX0 1 f fd ["form"] aAg:=by
 refine F.ok sc_order_of (fun vs H Q E h=>?_) (fun cdv A outer s H vs Q E hr h=>?_)
 ·obtain ⟨v,d,rfl,_⟩:=h
  rfl
 obtain ⟨v,d,rfl,hd,hF,hz,q⟩:=h
 have kl:=aKv hF
 refine ⟨_,(zF (zS (i:=1) sc_order_of.nd rfl (by first | exact Bc rfl | exact Ba rfl) (yV zE))
   (zF (zS (i:=2) sc_order_of.nd rfl (by first | exact Bc rfl | exact Ba rfl) (yV (zB (pv 0) zE)))
   (zF (aH8 BD (aBE (pv 2) (fun _=>rfl)) (zF (zS (i:=3) sc_order_of.nd rfl (by first | exact Bc rfl | exact Ba rfl) (aKG BH PySem.F.slot_list_pop PySem.F.type_list_pop aKH (pv 2)))
   (zI (qw (zc aK9 (pv 3) aEs (zn _)) (zI (yJ (aAq BH Cv Cw yE (pv 1) (zB zM zE)))) (zI (qw (aBv (aFI B.isinstance B.tuple qO (pv 3))) (zF (aEv (pv 3) (qA rfl (zP (zK (i:=4) sc_order_of.nd rfl (by first | exact Bc rfl | exact Ba rfl)) (zP (zK (i:=5) sc_order_of.nd rfl (by first | exact Bc rfl | exact Ba rfl)) (zP (zK (i:=6) sc_order_of.nd rfl (by first | exact Bc rfl | exact Ba rfl)) yK)))))
   (zF (yJ (aAq BH Cv Cw yE (pv 1) (zB (jk aFF (aAG (v:=.ref dR) rfl mR rfl) (pv 4) (fun _ _=>rfl)) zE)))
   (zF (yJ (aAq BH Cv Cw yE (pv 2) (zB aEs zE)))
   (zF (yJ (aAq BH FC FD aB0 (pv 2) (zB (aFg (pv 6)) zE)))
   (zF (yJ (aAq BH Cv Cw yE (pv 2) (zB aEs zE)))
   (zI (yJ (aAq BH FC FD aB0 (pv 2) (zB (aFg (pv 5)) zE))))))))) (zF (yJ (aAq BH Cv Cw yE (pv 1) (zB zM zE)))
   (zI (yJ (aAq BH Cv Cw yE (pv 1) (zB (pv 3) zE)))))))))))
   (zI (zV (yj yD rfl B.tuple qO (zB (pv 1) zE))))))),?_⟩
 try dsimp only [Cx.nox,kx1,kx2,kx3,kx4,kx5,kx6,kx7,kx8,kx9,kxa,kxb,kxc]
 refine ⟨(by show 0<=sizeLine; decide),fun ps hps=>⟨_,rfl,(by show 1<=sizeLine; decide),fun pw hpw=>?_⟩⟩
 have hs1:(upd (upd H ps (.lst [])) pw (.lst [v])) ps=some (.lst []):=by rw [zH (zD zC hpw),zC]
 have npw:H pw=none:=(Same.new hps).free hpw
 have nsw:ps≠pw:=zD zC hpw
 have S0:Same H (upd (upd H ps (.lst [])) pw (.lst [v])):=(Same.new hps).trans (Same.new hpw)
 refine ⟨fun m σ H'=>∃ (vr:List V) (wr:List (Option D)) (st:List Int) (o1 o2 o3 o4:Option V),σ=[some v,some (.ref ps),some (.ref pw),o1,o2,o3,o4]/\Same H H'/\H' ps=some (.lst (st.map V.int))/\H' pw=some (.lst vr.reverse)/\AH (DatO H') vr wr/\st++wr.flatMap kO=kD d/\sOs wr<=400/\m=sOs wr,
  ⟨_,[v],[some d],[],none,none,none,none,rfl,S0,hs1,zC,.cons (.som hF (Dat.kt (KT.same S0) _ hd)) .nil,by rw [Bm,EC,AM]; rfl,by unfold sOs; simpa [sO] using hz,rfl⟩,?_⟩
 rintro m σ H' ⟨vr,wr,st,o1,o2,o3,o4,rfl,sH,h1,h2,pr,eq,hsz,em⟩
 have lv:=pr.length
 have lw:=aDN wr
 have lst:st.length<=800:=by
  have:=congrArg Mh eq
  rw [Ai] at this
  lia
 have big:∀ k:Nat,k<=1000->k < sizeLine:=fun k=>aFE
 refine ⟨_,rfl,_,.inl ⟨_,SqL.of h2,rfl⟩,?_⟩
 cases pr with
 | nil =>
  refine iteF ?_
  have e:st=kD d:=by simpa using eq
  rw [e] at h1
  exact ⟨_,rfl,ps,_,rfl,.inl ⟨SqL.of h1,fun l hl=>q l _ (sH.trans (Same.new hl)) zC⟩⟩
 | @cons y z vr' wr' hy pr' =>
  have e2:(y :: vr').reverse=vr'.reverse++[y]:=HY
  have sn:=jd z wr'
  have zp:=aIR z
  rw [e2] at h2
  refine (show (if _ then _ else _:Prop) from ?_)
  have ne:(!((y :: vr').reverse).isEmpty)=true:=by rw [e2]; simp
  rw [if_pos ne]
  refine ⟨fun σ' H'=>∃ m',m' < m/\∃ (vr:List V) (wr:List (Option D)) (st:List Int) (o1 o2 o3 o4:Option V),σ'=[some v,some (.ref ps),some (.ref pw),o1,o2,o3,o4]/\Same H H'/\H' ps=some (.lst (st.map V.int))/\H' pw=some (.lst vr.reverse)/\AH (DatO H') vr wr/\st++wr.flatMap kO=kD d/\sOs wr<=400/\m'=sOs wr,fun σ' H' h=>h,?_⟩
  refine ⟨_,rfl,.inl ⟨rfl,_,SqL.of h2⟩,pw,_,y,rfl,rfl,h2,(by simp),?_⟩
  rw [List.dropLast_concat]
  have h1a:(upd H' pw (.lst vr'.reverse)) ps=some (.lst (st.map V.int)):=by rw [zH nsw]; exact h1
  have h2a:(upd H' pw (.lst vr'.reverse)) pw=some (.lst vr'.reverse):=zC
  have sW:∀ (o:HO) (H'':Hp),Same H H''->Same H (upd H'' pw o):=fun o H'' s b u e=>by rw [zH (zD e npw)]; exact s b u e
  have sP:∀ (o:HO) (H'':Hp),Same H H''->Same H (upd H'' ps o):=fun o H'' s b u e=>by rw [zH (zD e hps)]; exact s b u e
  have sHa:=sW (.lst vr'.reverse) _ sH
  have ka:KT H' (upd H' pw (.lst vr'.reverse)):=KT.upd h2
  have pra:=L2.Paired.mapP pr' fun _ _ h=>h.kt ka
  have hya:=hy.kt ka
  have eqz:st++(kO z++wr'.flatMap kO)=kD d:=by rw [<- Bm]; exact eq
  have push:∀ (u:List Int) (a b c d':Option V) (m1:Hp),kO z=u->Same H m1->m1 ps=some (.lst (st.map V.int++u.map V.int))->m1 pw=some (.lst vr'.reverse)->KT (upd H' pw (.lst vr'.reverse)) m1->∃ m',m' < m/\∃ (vr:List V) (wr:List (Option D)) (st:List Int) (o1 o2 o3 o4:Option V),[some v,some (.ref ps),some (.ref pw),a,b,c,d']=[some v,some (.ref ps),some (.ref pw),o1,o2,o3,o4]/\Same H m1/\m1 ps=some (.lst (st.map V.int))/\m1 pw=some (.lst vr.reverse)/\AH (DatO m1) vr wr/\st++wr.flatMap kO=kD d/\sOs wr<=400/\m'=sOs wr:=fun u a b c d' m1 hu g1 g2 g3 g4 =>
   ⟨sOs wr',by lia,vr',wr',st++u,a,b,c,d',rfl,g1,by rw [g2,Bh],g3,L2.Paired.mapP pra fun _ _ h=>h.kt g4,by rw [By,<- hu]; exact eqz,by lia,rfl⟩
  have lsm:(st.map V.int).length<=800:=by rw [Ah]; exact lst
  cases hya with
  | non =>
   refine ⟨_,rfl,rfl,_,rfl,iteT ?_⟩
   refine ⟨_,rfl,.inl ⟨rfl,_,SqL.of h1a⟩,ps,_,_,rfl,rfl,h1a,big _ (by lia),?_⟩
   exact push [0] _ _ _ _ _ rfl (sP _ _ sHa) zC (by rw [zH nsw.symm]; exact h2a) (KT.upd h1a)
  | @som z' _ hz1 hdz =>
   cases hz1 with
   | @num i g0 g1 =>
    have:=hdz.intE
    subst this
    refine ⟨_,rfl,rfl,_,rfl,iteF ?_⟩
    refine ⟨_,rfl,_,_,TyOf.int _,jM _,_,rfl,iteF ?_⟩
    refine ⟨_,rfl,.inl ⟨rfl,_,SqL.of h1a⟩,ps,_,_,rfl,rfl,h1a,big _ (by lia),?_⟩
    refine ⟨_,rfl,.inl ⟨rfl,_,SqL.of zC⟩,_,rfl,ps,_,_,rfl,rfl,zC,big _ (by rw [Ai]; show _ + 1<=_; lia),?_⟩
    exact push [1,i] _ _ _ _ _ (aAb i) (sP _ _ (sP _ _ sHa)) (by rw [zC,By]; rfl) (by rw [zH nsw.symm,zH nsw.symm]; exact h2a) ((KT.upd h1a).trans (KT.upd zC))
   | @grp k m0 more off hk g0 g1 g2 =>
    obtain ⟨p,pm,po,x0,xm,xo,rfl,hp,hpm,hpo,d0,d1,d2⟩:=aAc hdz
    have sg:=aIL k m0 more off
    obtain ⟨t1,e1⟩:=hR k hk
    have szz:sO (some (D.tup [.str k,.tup (m0 :: more),.tup off]))=sz (.tup [.str k,.tup (m0 :: more),.tup off]):=rfl
    have c1:=qh (m0 :: more)
    have c2:=qh off
    have lm:=d1.len
    have lo:=d2.len
    rw [AJ] at c1
    have lv':=pra.length
    have lw':=aDN wr'
    refine ⟨_,rfl,rfl,_,rfl,iteF ?_⟩
    refine ⟨_,rfl,_,_,TyOf.tup hp,aAN _,_,rfl,iteT ?_⟩
    refine ⟨_,rfl,p,_,rfl,SqT.of hp,rfl,_,_,rfl,_,_,rfl,_,_,rfl,rfl,?_⟩
    refine ⟨_,rfl,.inl ⟨rfl,_,SqL.of h1a⟩,?_⟩
    refine ⟨_,rfl,dR,k,.int (rkK k),_,rfl,rfl,TR,e1,⟨t1,rfl⟩,?_⟩
    refine ⟨ps,_,_,rfl,rfl,h1a,big _ (by lia),?_⟩
    have h2b:(upd (upd H' pw (.lst vr'.reverse)) ps (.lst (st.map V.int++[.int (rkK k)]))) pw=some (.lst vr'.reverse):=by rw [zH nsw.symm]; exact h2a
    refine ⟨_,rfl,.inl ⟨rfl,_,SqL.of h2b⟩,pw,_,_,rfl,rfl,h2b,big _ (by rw [BV]; lia),?_⟩
    have k0:KT (upd H' pw (.lst vr'.reverse)) (upd (upd H' pw (.lst vr'.reverse)) ps (.lst (st.map V.int++[.int (rkK k)]))):=KT.upd h1a
    have k1:=k0.trans (KT.upd (o:=.lst (vr'.reverse++[.non])) h2b)
    have s1:=sW (.lst (vr'.reverse++[.non])) _ (sP (.lst (st.map V.int++[.int (rkK k)])) _ sHa)
    have f1:(upd (upd (upd H' pw (.lst vr'.reverse)) ps (.lst (st.map V.int++[.int (rkK k)]))) pw (.lst (vr'.reverse++[.non]))) ps=some (.lst (st.map V.int++[.int (rkK k)])):=by rw [zH nsw,zC]
    have f2:(upd (upd (upd H' pw (.lst vr'.reverse)) ps (.lst (st.map V.int++[.int (rkK k)]))) pw (.lst (vr'.reverse++[.non]))) pw=some (.lst (vr'.reverse++[.non])):=zC
    generalize upd (upd (upd H' pw (.lst vr'.reverse)) ps (.lst (st.map V.int++[.int (rkK k)]))) pw (.lst (vr'.reverse++[.non]))=G1 at k1 s1 f1 f2 ⊢
    refine ⟨_,rfl,.inl ⟨rfl,_,SqL.of f2⟩,_,rfl,po,_,rfl,SqT.of (k1 _ _ hpo),fun pp hpp=>?_⟩
    have f3:=Same.new (o:=.tup xo.reverse) hpp _ _ f2
    refine ⟨pw,pp,_,_,rfl,rfl,f3,zC,by rw [Ai,BV,BV]; show _ + 1 + _<=_; lia,?_⟩
    have k2:=(k1.trans (KT.new (o:=.tup xo.reverse) hpp)).trans (KT.upd (o:=.lst (vr'.reverse++[.non]++xo.reverse)) f3)
    have s2:=sW (.lst (vr'.reverse++[.non]++xo.reverse)) _ (s1.trans (Same.new (o:=.tup xo.reverse) hpp))
    have f4:(upd (upd G1 pp (.tup xo.reverse)) pw (.lst (vr'.reverse++[.non]++xo.reverse))) ps=some (.lst (st.map V.int++[.int (rkK k)])):=by rw [zH nsw]; exact Same.new hpp _ _ f1
    have f5:(upd (upd G1 pp (.tup xo.reverse)) pw (.lst (vr'.reverse++[.non]++xo.reverse))) pw=some (.lst (vr'.reverse++[.non]++xo.reverse)):=zC
    generalize upd (upd G1 pp (.tup xo.reverse)) pw (.lst (vr'.reverse++[.non]++xo.reverse))=G3 at k2 s2 f4 f5 ⊢
    refine ⟨_,rfl,.inl ⟨rfl,_,SqL.of f5⟩,pw,_,_,rfl,rfl,f5,big _ (by rw [Ai,Ai,BV,BV]; show _ + 1 + _<=_; lia),?_⟩
    have k4:=k2.trans (KT.upd (o:=.lst (vr'.reverse++[.non]++xo.reverse++[.non])) f5)
    have s4:=sW (.lst (vr'.reverse++[.non]++xo.reverse++[.non])) _ s2
    have f6:(upd G3 pw (.lst (vr'.reverse++[.non]++xo.reverse++[.non]))) ps=some (.lst (st.map V.int++[.int (rkK k)])):=by rw [zH nsw]; exact f4
    have f7:(upd G3 pw (.lst (vr'.reverse++[.non]++xo.reverse++[.non]))) pw=some (.lst (vr'.reverse++[.non]++xo.reverse++[.non])):=zC
    generalize upd G3 pw (.lst (vr'.reverse++[.non]++xo.reverse++[.non]))=G4 at k4 s4 f6 f7 ⊢
    refine ⟨_,rfl,.inl ⟨rfl,_,SqL.of f7⟩,_,rfl,pm,_,rfl,SqT.of (k4 _ _ hpm),fun pq hpq=>?_⟩
    have f8:=Same.new (o:=.tup (x0 :: xm).reverse) hpq _ _ f7
    refine ⟨pw,pq,_,_,rfl,rfl,f8,zC,by rw [Ai,Ai,Ai,BV,BV,BV]; show _ + 1 + _ + 1 + (xm.length + 1)<=_; lia,?_⟩
    have k6:=(k4.trans (KT.new (o:=.tup (x0 :: xm).reverse) hpq)).trans (KT.upd (o:=.lst (vr'.reverse++[.non]++xo.reverse++[.non]++(x0 :: xm).reverse)) f8)
    have a1:=aBn (m0 :: more)
    have a2:=aBn off
    have cnt:sOs ((m0 :: more).map some++(none :: (off.map some++(none :: wr'))))<=szs (m0 :: more) + szs off + 2 + sOs wr':=by
     rw [aGh,jd,aGh,jd]
     show _ + (1 + (_ + (1 + _)))<=_
     lia
    refine ⟨sOs ((m0 :: more).map some++(none :: (off.map some++(none :: wr')))),by lia,(x0 :: xm)++(.non :: (xo++(.non :: vr'))),(m0 :: more).map some++(none :: (off.map some++(none :: wr'))),st++[rkK k],_,_,_,_,rfl,sW _ _ (s4.trans (Same.new hpq)),?_,?_,?_,?_,by lia,rfl⟩
    ·rw [zH nsw,Same.new hpq _ _ f6,Bh]; rfl
    ·rw [zC]; simp
    ·have w1:=aAf (l:=m0 :: more) (fun x hx=>by rcases Aj.mp hx with rfl | hx; exact g0; exact g1 x hx) (.consI (Dat.kt k6 _ d0) (Dats.kt k6 _ d1))
     have w2:=aAf g2 (Dats.kt k6 _ d2)
     exact aAy w1 (.cons .non (aAy w2 (.cons .non (L2.Paired.mapP pra fun _ _ h=>h.kt k6))))
    ·rw [BP,Bm,BP,Bm,aDO,aDO,<- eqz]
     show _=st++(kD _++_)
     rw [jY]
     simp [kO]
noncomputable def spIn:Sp:=fun vs H Q _=>∃ (l:Addr) (xs:List V) (ds:List D),vs=[.ref l]/\H l=some (.tup xs)/\Dats H ds xs/\(∀ x∈ds,IsForm x)/\szs ds<=120/\∀ (t:Addr) (H':Hp),Same H H'->Dat H' (.tup (srtD ds)) (.ref t)->Q (.ref t) H'
noncomputable abbrev yi:Stmt:=top 21
theorem aDP:FnScope ["parts"] ["parts"] (zG yi):=⟨rfl,rfl,rfl,by decide +kernel,rfl,by decide +kernel,by decide +kernel⟩
theorem aM0 {f:Addr} {fd:Bu} (F:Fun K "in_order" "in_order" yi f fd) (B:Blt mg) (hms:mg "sorted"=none) (Gorder:Def P w K mg base CX0 1 "order_of" aAg):FnOk P w K mg base CX0 4 f fd ["parts"] spIn:=by
 refine F.ok (k:=3) aDP (fun vs H Q E h=>?_) (fun cdv A outer s H vs Q E hr h=>?_)
 ·obtain ⟨l,xs,ds,rfl,_⟩:=h
  rfl
 obtain ⟨l,xs,ds,rfl,hl,hd,hf,hz,q⟩:=h
 have c:=qh ds
 have ln:=hd.len
 refine ⟨_,(zI (zV (yj yD rfl B.tuple qO (zB (aHI (E:=E) Gorder (hr.mono (by lia)) hms (pv 0)) zE)))),?_⟩
 try dsimp only [Cx.nox,kx1,kx2,kx3,kx4,kx5,kx6,kx7,kx8,kx9,kxa,kxb,kxc]
 refine ⟨_,rfl,l,xs,keyH H,rfl,SqT.of hl,by lia,fun x hx=>?_,fun H' x s' hx Q' q'=>?_,fun p ys H' s' hp pp po=>?_⟩
 ·obtain ⟨d,hd1,hd2⟩:=aBj hd hx
  rw [aBk (hf d hd1) hd2]
  obtain ⟨a,r,e,_⟩:=aBg (hf d hd1)
  rw [e]
  exact fun h=>nomatch h
 ·obtain ⟨d,hd1,hd2⟩:=aBj hd hx
  have m:=aIN hd1
  refine ⟨x,d,rfl,Dat.kt (KT.same s') _ hd2,hf d hd1,by lia,fun t H'' s2 ht=>q' t H'' s2 ?_⟩
  rw [aBk (hf d hd1) hd2]
  exact ht
 ·refine ⟨p,_,rfl,.inl ⟨SqL.of hp,fun t ht=>?_⟩⟩
  have s3:=s'.trans (Same.new (o:=.tup ys) ht)
  exact q t _ s3 (.tupI zC (aDK s3 hf hd pp po))
noncomputable def aIS:Sp:=fun vs H Q _=>∃ (k:Str) (v:V) (d:D),vs=[.str k,v]/\Dat H d v/\IsForm d/\Q (.bl (match d with | .tup (.str k' :: _)=>decide (k'=k) | _=>false)) H
noncomputable abbrev jz:Stmt:=top 20
theorem aHq:FnScope ["kind","form"] ["kind","form"] (zG jz):=⟨rfl,rfl,rfl,by decide +kernel,rfl,by decide +kernel,by decide +kernel⟩
theorem aM1 {f:Addr} {fd:Bu} (F:Fun K "is_of" "is_of" jz f fd) (B:Blt mg):FnOk P w K mg base CX0 1 f fd ["kind","form"] aIS:=by
 refine F.ok aHq (fun vs H Q E h=>?_) (fun cdv A outer s H vs Q E hr h=>?_)
 ·obtain ⟨k,v,d,rfl,_⟩:=h
  rfl
 obtain ⟨k,v,d,rfl,hd,hF,q⟩:=h
 refine ⟨_,(zI (zV (aK1 (aFI B.isinstance B.tuple qO (pv 1)) (aK0 (aBD aCn (jk aDc (pv 1) zM (fun _ _=>rfl)) (pv 0) (zn _)))))),?_⟩
 try dsimp only [Cx.nox,kx1,kx2,kx3,kx4,kx5,kx6,kx7,kx8,kx9,kxa,kxb,kxc]
 cases hF with
 | num g0 g1 =>
  have:=hd.intE
  subst this
  exact ⟨_,rfl,_,_,TyOf.int _,jM _,_,rfl,iteF q⟩
 | @grp k' m0 more off hk g0 g1 g2 =>
  obtain ⟨p,pm,po,x0,xm,xo,rfl,hp,hpm,hpo,d0,d1,d2⟩:=aAc hd
  refine ⟨_,rfl,_,_,TyOf.tup hp,aAN _,_,rfl,iteT ?_⟩
  exact ⟨_,rfl,p,_,0,_,rfl,rfl,SqT.of hp,aBF (j:=0) rfl,_,rfl,rfl,by rw [show decide (V.str k'=V.str k)=decide (k'=k) from decide_eq_decide.mpr ⟨fun e=>V.str.inj e,fun e=>congrArg V.str e⟩]; exact q⟩
noncomputable def aGi:Sp:=fun vs H Q _=>∃ (k:Str) (v:V) (d:D),vs=[.str k,v]/\Dat H d v/\IsForm d/\∀ (t a b:Addr) (xs ys:List V) (H':Hp),Same H H'->H' t=some (.tup [.ref a,.ref b])->H' a=some (.tup xs)->H' b=some (.tup ys)->Dats H' (pf k d).1 xs->Dats H' (pf k d).2 ys->Q (.ref t) H'
noncomputable abbrev yN:Stmt:=top 19
theorem aCd:FnScope ["kind","form"] ["kind","form"] (zG yN):=⟨rfl,rfl,rfl,by decide +kernel,rfl,by decide +kernel,by decide +kernel⟩
theorem aHr {f:Addr} {fd:Bu} (F:Fun K "parts_for" "parts_for" yN f fd) (B:Blt mg) (Gis:Def P w K mg base CX0 1 "is_of" aIS):FnOk P w K mg base CX0 2 f fd ["kind","form"] aGi:=by
 refine F.ok (k:=1) aCd (fun vs H Q E h=>?_) (fun cdv A outer s H vs Q E hr h=>?_)
 ·obtain ⟨k,v,d,rfl,_⟩:=h
  rfl
 obtain ⟨k,v,d,rfl,hd,hF,q⟩:=h
 refine ⟨_,(zF (qw (aBv (zU Gis (hr.mono (by lia)) (zB (pv 0) (zB (pv 1) zE)))) (zI (zV (yU (zB (jk aDc (pv 1) zM (fun _ _=>rfl)) (zB (jk aDc (pv 1) zM (fun _ _=>rfl)) zE))))) yC)
   (zI (zV (yU (zB (yU (zB (pv 1) zE)) (zB (yU zE) zE zt) zt))))),?_⟩
 try dsimp only [Cx.nox,kx1,kx2,kx3,kx4,kx5,kx6,kx7,kx8,kx9,kxa,kxb,kxc]
 refine ⟨_,rfl,_,rfl,k,v,d,rfl,hd,hF,_,rfl,?_⟩
 have single:((pf k d).1=[d]/\(pf k d).2=[])->∀ (p1 p2 p3:Addr),H p1=none->(upd H p1 (.tup [v])) p2=none->(upd (upd H p1 (.tup [v])) p2 (.tup [])) p3=none->Q (.ref p3) (upd (upd (upd H p1 (.tup [v])) p2 (.tup [])) p3 (.tup [.ref p1,.ref p2])):=by
  intro hp p1 p2 p3 h1 h2 h3
  have s1:Same H (upd (upd (upd H p1 (.tup [v])) p2 (.tup [])) p3 (.tup [.ref p1,.ref p2])):=((Same.new h1).trans (Same.new h2)).trans (Same.new h3)
  refine q p3 p1 p2 [v] [] _ s1 zC ((Same.new h2).trans (Same.new h3) _ _ zC) (Same.new h3 _ _ zC) ?_ ?_
  ·rw [hp.1]; exact .consI (Dat.kt (KT.same s1) _ hd) (.nilI _)
  ·rw [hp.2]; exact .nilI _
 have fin:((pf k d).1=[d]/\(pf k d).2=[])->∀ (p1:Addr),H p1=none->([]:List V).length<=sizeLine/\∀ p2,(upd H p1 (.tup [v])) p2=none->[V.ref p1,V.ref p2].length<=sizeLine/\∀ p3,(upd (upd H p1 (.tup [v])) p2 (.tup [])) p3=none->Q (.ref p3) (upd (upd (upd H p1 (.tup [v])) p2 (.tup [])) p3 (.tup [.ref p1,.ref p2])):=fun hp p1 h1=>⟨by show 0<=sizeLine; decide,fun p2 h2=>⟨by show 2<=sizeLine; decide,fun p3 h3=>single hp p1 p2 p3 h1 h2 h3⟩⟩
 cases hF with
 | num g0 g1 =>
  refine iteF ?_
  exact ⟨_,rfl,(by show 1<=sizeLine; decide),fin ⟨rfl,rfl⟩⟩
 | @grp k' m0 more off hk g0 g1 g2 =>
  by_cases e:k'=k
  ·subst e
   obtain ⟨p,pm,po,x0,xm,xo,rfl,hp,hpm,hpo,d0,d1,d2⟩:=aAc hd
   refine (show (if decide (k'=k')=true then _ else _:Prop) from ?_)
   rw [if_pos (decide_eq_true rfl)]
   refine ⟨_,rfl,p,_,1,_,rfl,rfl,SqT.of hp,aBF (j:=1) rfl,_,rfl,p,_,2,_,rfl,rfl,SqT.of hp,aBF (j:=2) rfl,(by show 2<=sizeLine; decide),fun t ht=>?_⟩
   have s1:Same H (upd H t (.tup [.ref pm,.ref po])):=Same.new ht
   have ep:pf k' (.tup [.str k',.tup (m0 :: more),.tup off])=(m0 :: more,off):=by rw [aE5,if_pos rfl]
   refine q t pm po _ _ _ s1 zC (s1 _ _ hpm) (s1 _ _ hpo) ?_ ?_
   ·rw [ep]; exact .consI (Dat.kt (KT.same s1) _ d0) (Dats.kt (KT.same s1) _ d1)
   ·rw [ep]; exact Dats.kt (KT.same s1) _ d2
  ·have ep:pf k (.tup [.str k',.tup (m0 :: more),.tup off])=([.tup [.str k',.tup (m0 :: more),.tup off]],[]):=by rw [aE5,if_neg e]
   refine (show (if decide (k'=k)=true then _ else _:Prop) from ?_)
   rw [if_neg (by rw [decide_eq_false e]; decide)]
   exact ⟨_,rfl,(by show 1<=sizeLine; decide),fin (by rw [ep]; exact ⟨rfl,rfl⟩)⟩
noncomputable def aIT:Sp:=fun vs H Q _=>∃ (wd:Str) (u v:V) (a b:Way),vs=[.str wd,u,v]/\(Way.op wd a b).ok 1000000/\(Way.op wd a b).size<=12/\Dat H (fP a) u/\Dat H (fP b) v/\∀ (t:V) (H':Hp),Same H H'->Dat H' (fP (.op wd a b)) t->Q t H'
noncomputable def aL8 (K:Af) (a:Addr):Prop:=∀ H:Hp,SqT K H a [.str "less",.str "share"]
theorem aGj (a b:Str):eqV (.str a) (.str b)=decide (a=b):=by
 unfold eqV
 first | rfl | (by_cases h:a=b <;> simp [h])
theorem aL9 (wd:Str):inV (.str wd) [.str "less",.str "share"]=trn wd:=by
 unfold inV trn
 rw [Ew,Ew,List.any_nil,Nb]
 rw [aGj,aGj]
 by_cases h1:wd="less"
 ·subst h1; decide
 ·by_cases h2:wd="share"
  ·subst h2; decide
  ·rw [decide_eq_false (show ¬ ("less":Str)=wd from fun e=>h1 e.symm),decide_eq_false (show ¬ ("share":Str)=wd from fun e=>h2 e.symm),decide_eq_false (by rintro (h | h); exact h1 h; exact h2 h)]; rfl
noncomputable abbrev qq:Stmt:=top 18
theorem sc_joined:FnScope ["word","first","second","kind","more","off","put","taken"] ["word","first","second"] (zG qq):=⟨rfl,rfl,rfl,by decide +kernel,rfl,by decide +kernel,by decide +kernel⟩
theorem aJZ {f dK tT:Addr} {fd:Bu} (F:Fun K "joined" "joined" qq f fd) (B:Blt mg) (mK:mg "KINDS"=some (.ref dK)) (mT:mg "TURNED"=some (.ref tT)) (TK:jm w K dK) (TT:aL8 K tT)
  (hK:∀ k:Str,qI k->∃ t,As K dK k=some (some (.str (knd k) t))) (Gparts:Def P w K mg base CX0 2 "parts_for" aGi) (Gin:Def P w K mg base CX0 4 "in_order" spIn):FnOk P w K mg base CX0 5 f fd ["word","first","second"] aIT:=by
 refine F.ok (k:=4) sc_joined (fun vs H Q E h=>?_) (fun cdv A outer s H vs Q E hr h=>?_)
 ·obtain ⟨wd,u,v,a,b,rfl,_⟩:=h
  rfl
 obtain ⟨wd,u,v,a,b,rfl,hok,hs,du,dv,q⟩:=h
 obtain ⟨ow,oa,ob⟩:=id hok
 obtain ⟨t1,e1⟩:=hK wd ow
 have za:=aJO oa
 have zb:=aJO ob
 have pa:=aHj (k:=knd wd) (yX oa)
 have pb:=aHj (k:=knd wd) (yX ob)
 have sw:=aIM (trn wd) (pf (knd wd) (fP b))
 have hs':a.size + b.size<=12:=hs
 obtain ⟨_,fa1,fa2⟩:=aDJ (k:=knd wd) (yX oa)
 obtain ⟨fb1,fb2⟩:=aCZ (b:=trn wd) (k:=knd wd) (yX ob)
 refine ⟨_,(zF (zS (i:=3) sc_joined.nd rfl (by first | exact Bc rfl | exact Ba rfl) (jk aFF (aAG (v:=.ref dK) rfl mK rfl) (pv 0) (fun _ _=>rfl)))
   (zF (aEv (zU Gparts (hr.mono (by lia)) (zB (pv 3) (zB (pv 1) zE))) (qA rfl (zP (zK (i:=4) sc_joined.nd rfl (by first | exact Bc rfl | exact Ba rfl)) (zP (zK (i:=5) sc_joined.nd rfl (by first | exact Bc rfl | exact Ba rfl)) yK))))
   (zF (aEv (zU Gparts (hr.mono (by lia)) (zB (pv 3) (zB (pv 2) zE))) (qA rfl (zP (zK (i:=6) sc_joined.nd rfl (by first | exact Bc rfl | exact Ba rfl)) (zP (zK (i:=7) sc_joined.nd rfl (by first | exact Bc rfl | exact Ba rfl)) yK))))
   (zF (qw (zc aC1 (pv 0) (aAG (v:=.ref tT) rfl mT rfl) rfl) (zI (aK3 (i:=6) (j:=7) rfl sc_joined.nd rfl rfl (by decide) rfl rfl (zB (pv 7) (zB (pv 6) zE)) rfl)) yC)
   (zI (zV (yU (zB (pv 3) (zB (zU Gin (hr.mono (by lia)) (zB (zW jq (pv 4) (pv 6)) zE)) (zB (zU Gin (hr.mono (by lia)) (zB (zW jq (pv 5) (pv 7)) zE)) zE)))))))))),?_⟩
 try dsimp only [Cx.nox,kx1,kx2,kx3,kx4,kx5,kx6,kx7,kx8,kx9,kxa,kxb,kxc]
 refine ⟨_,rfl,dK,wd,.str (knd wd),_,rfl,rfl,TK,e1,⟨t1,rfl⟩,?_⟩
 refine ⟨_,rfl,_,rfl,knd wd,u,fP a,rfl,du,yX oa,fun t a1 a2 xs ys H1 s1 ht h1 h2 dx dy=>?_⟩
 refine ⟨t,_,rfl,SqT.of ht,rfl,_,_,rfl,_,_,rfl,rfl,?_⟩
 refine ⟨_,rfl,_,rfl,knd wd,v,fP b,rfl,Dat.kt (KT.same s1) _ dv,yX ob,fun t2 b1 b2 zs ws H2 s2 ht2 h3 h4 dz dw=>?_⟩
 refine ⟨t2,_,rfl,SqT.of ht2,rfl,_,_,rfl,_,_,rfl,rfl,?_⟩
 refine ⟨_,rfl,tT,_,rfl,.inr (TT _),rfl,rfl,_,rfl,?_⟩
 refine (show (if inV (.str wd) [.str "less",.str "share"]=true then _ else _:Prop) from ?_)
 rw [aL9]
 have k2:=KT.same s2
 have g1:=s2 _ _ h1
 have g2:=s2 _ _ h2
 have ex:=Dats.kt k2 _ dx
 have ey:=Dats.kt k2 _ dy
 have s12:=s1.trans s2
 cases ht0:trn wd with
 | false =>
  refine iteF ?_
  rw [ht0] at fb1 fb2 sw
  have ef:fP (.op wd a b)=.tup [.str (knd wd),.tup (srtD ((pf (knd wd) (fP a)).1++(swp false (pf (knd wd) (fP b))).1)),.tup (srtD ((pf (knd wd) (fP a)).2++(swp false (pf (knd wd) (fP b))).2))]:=by rw [fP,ht0]
  rw [ef] at q
  have d1:Dats H2 ((pf (knd wd) (fP a)).1++(swp false (pf (knd wd) (fP b))).1) _:=Dats.app ex dz
  have d2:Dats H2 ((pf (knd wd) (fP a)).2++(swp false (pf (knd wd) (fP b))).2) _:=Dats.app ey dw
  have z1:=qh ((pf (knd wd) (fP a)).1++(swp false (pf (knd wd) (fP b))).1)
  have z2:=qh ((pf (knd wd) (fP a)).2++(swp false (pf (knd wd) (fP b))).2)
  have l1:=d1.len
  have l2:=d2.len
  have c1:=jE (pf (knd wd) (fP a)).1 (swp false (pf (knd wd) (fP b))).1
  have c2:=jE (pf (knd wd) (fP a)).2 (swp false (pf (knd wd) (fP b))).2
  refine ⟨_,rfl,_,rfl,_,rfl,a1,b1,_,_,rfl,rfl,g1,h3,by rw [<- Ai]; lia,fun p H3 s3 hp=>?_⟩
  refine ⟨p,_,_,rfl,hp,Dats.kt (KT.same s3) _ d1,fun x hx=>?_,by lia,fun m H4 s4 dm=>?_⟩
  ·rcases Bj.mp hx with h | h
   ·exact fa1 x h
   ·exact fb1 x h
  have s34:=s3.trans s4
  refine ⟨_,rfl,_,rfl,a2,b2,_,_,rfl,rfl,s34 _ _ g2,s34 _ _ h4,by rw [<- Ai]; lia,fun p2 H5 s5 hp2=>?_⟩
  refine ⟨p2,_,_,rfl,hp2,Dats.kt (KT.same (s34.trans s5)) _ d2,fun x hx=>?_,by lia,fun o H6 s6 do_=>?_⟩
  ·rcases Bj.mp hx with h | h
   ·exact fa2 x h
   ·exact fb2 x h
  refine ⟨(by show 3<=sizeLine; decide),fun r hr0=>?_⟩
  have sr:Same H6 (upd H6 r (.tup [.str (knd wd),.ref m,.ref o])):=Same.new hr0
  exact q (.ref r) _ ((s12.trans s34).trans ((s5.trans s6).trans sr)) (.tupI zC (.consI (.strI _) (.consI (Dat.kt (KT.same ((s5.trans s6).trans sr)) _ dm) (.consI (Dat.kt (KT.same sr) _ do_) (.nilI _)))))
 | true =>
  refine iteT ?_
  rw [ht0] at fb1 fb2 sw
  have ef:fP (.op wd a b)=.tup [.str (knd wd),.tup (srtD ((pf (knd wd) (fP a)).1++(swp true (pf (knd wd) (fP b))).1)),.tup (srtD ((pf (knd wd) (fP a)).2++(swp true (pf (knd wd) (fP b))).2))]:=by rw [fP,ht0]
  rw [ef] at q
  refine ⟨_,rfl,_,rfl,_,_,rfl,?_⟩
  have d1:Dats H2 ((pf (knd wd) (fP a)).1++(swp true (pf (knd wd) (fP b))).1) _:=Dats.app ex dw
  have d2:Dats H2 ((pf (knd wd) (fP a)).2++(swp true (pf (knd wd) (fP b))).2) _:=Dats.app ey dz
  have z1:=qh ((pf (knd wd) (fP a)).1++(swp true (pf (knd wd) (fP b))).1)
  have z2:=qh ((pf (knd wd) (fP a)).2++(swp true (pf (knd wd) (fP b))).2)
  have l1:=d1.len
  have l2:=d2.len
  have c1:=jE (pf (knd wd) (fP a)).1 (swp true (pf (knd wd) (fP b))).1
  have c2:=jE (pf (knd wd) (fP a)).2 (swp true (pf (knd wd) (fP b))).2
  refine ⟨_,rfl,_,rfl,_,rfl,a1,b2,_,_,rfl,rfl,g1,h4,by rw [<- Ai]; lia,fun p H3 s3 hp=>?_⟩
  refine ⟨p,_,_,rfl,hp,Dats.kt (KT.same s3) _ d1,fun x hx=>?_,by lia,fun m H4 s4 dm=>?_⟩
  ·rcases Bj.mp hx with h | h
   ·exact fa1 x h
   ·exact fb1 x h
  have s34:=s3.trans s4
  refine ⟨_,rfl,_,rfl,a2,b1,_,_,rfl,rfl,s34 _ _ g2,s34 _ _ h3,by rw [<- Ai]; lia,fun p2 H5 s5 hp2=>?_⟩
  refine ⟨p2,_,_,rfl,hp2,Dats.kt (KT.same (s34.trans s5)) _ d2,fun x hx=>?_,by lia,fun o H6 s6 do_=>?_⟩
  ·rcases Bj.mp hx with h | h
   ·exact fa2 x h
   ·exact fb2 x h
  refine ⟨(by show 3<=sizeLine; decide),fun r hr0=>?_⟩
  have sr:Same H6 (upd H6 r (.tup [.str (knd wd),.ref m,.ref o])):=Same.new hr0
  exact q (.ref r) _ ((s12.trans s34).trans ((s5.trans s6).trans sr)) (.tupI zC (.consI (.strI _) (.consI (Dat.kt (KT.same ((s5.trans s6).trans sr)) _ dm) (.consI (Dat.kt (KT.same sr) _ do_) (.nilI _)))))
noncomputable def kW (x:Way):List Int:=kD (fP x)
noncomputable def addW (l:List Way) (x:Way):List Way:=if (l.any fun y=>decide (kW y=kW x))=true then l else l++[x]
noncomputable def updW (l m:List Way):List Way:=m.foldl addW l
noncomputable def prW (wd:Str) (fs ss:List Way):List Way:=fs.flatMap fun f=>ss.map fun s=>Way.op wd f s
noncomputable def jbW (wd:Str) (fs ss:List Way):List Way:=updW [] (prW wd fs ss)
noncomputable abbrev Cut:=Dd×List Bool×List Bool
noncomputable def cutP (t:List Bool->List Int) (x:Int) (p:List Bool×List Bool):List Cut:=((dbL (t p.1) (t p.2)).filter fun d=>decide (d.2.2.2=x)).map fun d=>(d,p.1,p.2)
noncomputable def fbW (t:List Bool->List Int):Nat->List Bool->Int->List Way
 | 0,_,_=>[]
 | n + 1,c,x=>if x∈t c then (if c.count true=1 then [.num x] else ((zX c).flatMap (cutP t x)).foldl (fun acc q=>updW acc (jbW q.1.1 (fbW t n q.2.1 q.1.2.1) (fbW t n q.2.2 q.1.2.2.1))) []) else []
noncomputable def stF (t:List Bool->List Int) (n:Nat) (acc:List Way) (q:Cut):List Way:=updW acc (jbW q.1.1 (fbW t n q.2.1 q.1.2.1) (fbW t n q.2.2 q.1.2.2.1))
theorem je {t:List Bool->List Int} {n:Nat} {c:List Bool} {x:Int} (h:x∈t c) (h1:c.count true≠1):fbW t (n + 1) c x=((zX c).flatMap (cutP t x)).foldl (stF t n) []:=by
 rw [fbW,if_pos h,if_neg h1]; rfl
theorem aAh {t:List Bool->List Int} {n:Nat} {c:List Bool} {x:Int} (h:x∈t c) (h1:c.count true=1):fbW t (n + 1) c x=[.num x]:=by
 rw [fbW,if_pos h,if_pos h1]
theorem qt {t:List Bool->List Int} {n:Nat} {c:List Bool} {x:Int} (h:¬ x∈t c):fbW t n c x=[]:=by
 cases n with
 | zero=>rfl
 | succ n=>rw [fbW,if_neg h]
noncomputable def Okl (l:List Way):Prop:=l.length < 64/\(l.map fun x=>hsh (kW x)).Nodup
noncomputable def GdT (t:List Bool->List Int):Nat->List Bool->Prop
 | 0,_=>True
 | n + 1,c=>(∀ x,Okl (fbW t (n + 1) c x))/\∀ p∈zX c,GdT t n p.1/\GdT t n p.2/\∀ d∈dbL (t p.1) (t p.2),Okl (jbW d.1 (fbW t n p.1 d.2.1) (fbW t n p.2 d.2.2.1))
noncomputable def tabF (ns:List Int) (c:List Bool):List Int:=rowF (zJ ns c)
noncomputable def chA (n:Nat):List (List Bool):=(chL n).filter (·.any id)
noncomputable def allT (t:List Bool->List Int) (n:Nat) (x:Int):List Way:=(chA n).foldl (fun acc c=>updW acc (fbW t 4 c x)) []
noncomputable def allW (ns:List Int) (x:Int):List Way:=allT (tabF ns) ns.length x
noncomputable def GdN (ns:List Int):Prop:=Few1 ns/\(∀ c∈chA ns.length,GdT (tabF ns) 4 c)/\∀ x,(allW ns x).length < 64
theorem aEB {l:List Way} {x y:Way} (h:y∈addW l x):y∈l\/y=x:=by
 unfold addW at h
 split at h
 ·exact .inl h
 ·rcases Bj.mp h with h | h
  ·exact .inl h
  ·exact .inr (Ae.mp h)
theorem jf:∀ {m l:List Way} {y:Way},y∈updW l m->y∈l\/y∈m
 | [],l,y,h=>.inl h
 | x :: r,l,y,h=>by
  rcases jf (m:=r) (l:=addW l x) h with h | h
  ·rcases aEB h with h | h
   ·exact .inl h
   ·exact .inr (by rw [h]; exact Am ..)
  ·exact .inr (Al _ h)
theorem aJa (l:List Way) (x:Way):l.length<=(addW l x).length:=by
 unfold addW; split
 ·exact Ak _
 ·rw [Ai]; lia
theorem aHs (l:List Way) (x:Way):1<=(addW l x).length:=by
 unfold addW
 split
 ·rename_i h
  obtain ⟨y,hy,_⟩:=Ma.mp h
  exact FX hy
 ·rw [Ai]; show 1<=_ + 1; lia
theorem aBo:∀ (m l:List Way),l.length<=(updW l m).length
 | [],l=>Ak _
 | x :: r,l=>Ay (aJa l x) (aBo r (addW l x))
theorem aBp {m:List Way} (l:List Way) (h:m≠[]):1<=(updW l m).length:=by
 cases m with
 | nil=>exact absurd rfl h
 | cons x r=>exact Ay (aHs l x) (aBo r (addW l x))
theorem aJb (l:List Way) (x:Way):(addW l x).length<=l.length + 1:=by
 unfold addW; split
 ·lia
 ·rw [Ai]; exact Ak _
theorem aGk:∀ (m l:List Way),(updW l m).length<=l.length + m.length
 | [],l=>Ak _
 | x :: r,l=>by
  have h1:=aGk r (addW l x)
  have h2:=aJb l x
  show (updW (addW l x) r).length<=l.length + (r.length + 1)
  lia
theorem aGl (t:List Bool->List Int) (n:Nat):∀ (qs:List Cut) (acc:List Way),acc.length<=(qs.foldl (stF t n) acc).length
 | [],acc=>Ak _
 | q :: r,acc=>Ay (aBo _ acc) (aGl t n r (stF t n acc q))
theorem aGm (t:List Bool->List Int) (n:Nat):∀ (qs:List Cut) (acc:List Way) (q:Cut),q∈qs->jbW q.1.1 (fbW t n q.2.1 q.1.2.1) (fbW t n q.2.2 q.1.2.2.1)≠[]->1<=(qs.foldl (stF t n) acc).length
 | [],_,q,h,_=>nomatch h
 | p :: r,acc,q,h,hn=>by
  rcases Aj.mp h with rfl | h
  ·exact Ay (aBp acc hn) (aGl t n r (stF t n acc q))
  ·exact aGm t n r (stF t n acc p) q h hn
theorem aGn (t:List Bool->List Int) (n:Nat):∀ (qs:List Cut) (acc:List Way) {y:Way},y∈qs.foldl (stF t n) acc->y∈acc\/∃ q∈qs,y∈jbW q.1.1 (fbW t n q.2.1 q.1.2.1) (fbW t n q.2.2 q.1.2.2.1)
 | [],acc,y,h=>.inl h
 | q :: r,acc,y,h=>by
  rcases aGn t n r (stF t n acc q) h with h | ⟨p,hp,h⟩
  ·rcases jf h with h | h
   ·exact .inl h
   ·exact .inr ⟨q,Am ..,h⟩
  ·exact .inr ⟨p,Al _ hp,h⟩
theorem aGo {wd:Str} {fs ss:List Way} {y:Way} (h:y∈jbW wd fs ss):∃ f∈fs,∃ s∈ss,y=.op wd f s:=by
 rcases jf h with h | h
 ·exact nomatch h
 ·obtain ⟨f,hf,h⟩:=AS.mp h
  obtain ⟨s,hs,rfl⟩:=Bk.mp h
  exact ⟨f,hf,s,hs,rfl⟩
theorem aLA {wd:Str} {fs ss:List Way} (h1:fs≠[]) (h2:ss≠[]):jbW wd fs ss≠[]:=by
 have:prW wd fs ss≠[]:=by
  obtain ⟨f,fs',rfl⟩:=Hf h1
  obtain ⟨s,ss',rfl⟩:=Hf h2
  intro e
  simp [prW] at e
 have:=aBp [] this
 exact fun e=>by unfold jbW at e; rw [e] at this; simp at this
theorem aGp {t:List Bool->List Int} {x:Int} {c:List Bool} {q:Cut} (h:q∈(zX c).flatMap (cutP t x)):(q.2.1,q.2.2)∈zX c/\q.1∈dbL (t q.2.1) (t q.2.2)/\q.1.2.2.2=x:=by
 obtain ⟨p,hp,h⟩:=AS.mp h
 obtain ⟨d,hd,rfl⟩:=Bk.mp h
 obtain ⟨h1,h2⟩:=Bi.mp hd
 exact ⟨hp,h1,of_decide_eq_true h2⟩
theorem aJc {t:List Bool->List Int} {x:Int} {c:List Bool} {p:List Bool×List Bool} {d:Dd} (hp:p∈zX c) (hd:d∈dbL (t p.1) (t p.2)) (e:d.2.2.2=x):(d,p.1,p.2)∈(zX c).flatMap (cutP t x) :=
 AS.mpr ⟨p,hp,Bk.mpr ⟨d,Bi.mpr ⟨hd,decide_eq_true e⟩,rfl⟩⟩
theorem aGq {xs ys:List Int} {d:Dd} (h:d∈dbL xs ys):qI d.1/\d.2.1∈xs/\d.2.2.1∈ys/\byE d.1 d.2.1 d.2.2.1=.inr d.2.2.2:=by
 obtain ⟨x,hx,h⟩:=AS.mp h
 obtain ⟨y,hy,h⟩:=AS.mp h
 obtain ⟨wd,hw,h⟩:=DY.mp h
 unfold one4 at h
 cases e:byE wd x y with
 | inl z=>rw [e] at h; cases h
 | inr z =>
  rw [e] at h
  cases h
  exact ⟨by simpa [dW,qI] using hw,hx,hy,e⟩
theorem aJd {a b c:List Bool} (h:Spl a b c):a.count true + b.count true=c.count true:=by
 have e:∀ {l:List Bool},(zJ (Fg l.length 0) l).length=l.count true:=zw (by rw [EM])
 have l:=h.len
 have m:=(h.mix (Fg c.length 0) (by rw [EM])).len
 have e1:=e (l:=c)
 have e2:=e (l:=a)
 have e3:=e (l:=b)
 rw [l.1] at e2
 rw [l.2] at e3
 lia
theorem jI {c:List Bool} {p:List Bool×List Bool} (h:p∈zX c):p.1.count true + p.2.count true=c.count true/\1<=p.1.count true/\1<=p.2.count true/\p.1.length=c.length/\p.2.length=c.length/\p.1.any id=true/\p.2.any id=true:=by
 obtain ⟨hs,h1,h2⟩:=mem_splits.mp h
 exact ⟨aJd hs,(qH _).mp h1,(qH _).mp h2,hs.len.1,hs.len.2,h1,h2⟩
theorem aEC {ns:List Int} {c:List Bool} {x:Int} (hN:Nums ns) (hl:c.length=ns.length) (h1:c.count true=1) (h:x∈tabF ns c):1<=x/\x<=1000000:=by
 have e:=zw (ns:=ns) (c:=c) hl.symm
 rw [h1] at e
 match hc:zJ ns c,e with
 | [m],_ =>
  have hm:=hN.2 m (yc (c:=c) (by rw [hc]; exact Ae.mpr rfl))
  unfold tabF at h
  rw [hc,aD5 hm.1,Ae] at h
  rw [h]; exact hm
theorem aDQ {ns:List Int} (hN:Nums ns):∀ (n:Nat) (c:List Bool) (x:Int) (y:Way),c.length=ns.length->y∈fbW (tabF ns) n c x->y.ok 1000000/\y.size=c.count true
 | 0,c,x,y,_,h=>nomatch h
 | n + 1,c,x,y,hl,h=>by
  by_cases hx:x∈tabF ns c
  ·by_cases h1:c.count true=1
   ·rw [aAh hx h1] at h
    rw [Ae.mp h]
    exact ⟨aEC hN hl h1 hx,h1.symm⟩
   ·rw [je hx h1] at h
    rcases aGn _ _ _ _ h with h | ⟨q,hq,h⟩
    ·exact nomatch h
    ·obtain ⟨f,hf,s,hs,rfl⟩:=aGo h
     obtain ⟨hp,hd,_⟩:=aGp hq
     obtain ⟨c1,_,_,l1,l2,_,_⟩:=jI hp
     obtain ⟨o1,z1⟩:=aDQ hN n _ _ f (l1.trans hl) hf
     obtain ⟨o2,z2⟩:=aDQ hN n _ _ s (l2.trans hl) hs
     exact ⟨⟨(aGq hd).1,o1,o2⟩,by show f.size + s.size=_; rw [z1,z2]; exact c1⟩
  ·rw [qt hx] at h; exact nomatch h
theorem aJe {ns:List Int} (hN:Nums ns):∀ (n:Nat) (c:List Bool) (x:Int),c.length=ns.length->c.count true<=n->x∈tabF ns c->fbW (tabF ns) n c x≠[]
 | 0,c,x,hl,hc,h=>by
  have e:=zw (ns:=ns) (c:=c) hl.symm
  have:zJ ns c=[]:=IN.mp (by lia)
  unfold tabF at h
  rw [this] at h
  exact absurd rfl (((yY (zs:=[]) (by simp)).2 x).mp h).ne
 | n + 1,c,x,hl,hc,h=>by
  by_cases h1:c.count true=1
  ·rw [aAh h h1]; exact fun e=>by cases e
  ·rw [je h h1]
   have e:=zw (ns:=ns) (c:=c) hl.symm
   have l4:(zJ ns c).length<=4:=Ay (zj ns _) hN.1
   obtain ⟨p,hp,d,hd,ed⟩:=aBm hN hl.symm (by rw [e]; exact h1) (((yY l4).2 x).mp h)
   obtain ⟨c1,c2,c3,l1,l2,_,_⟩:=jI hp
   obtain ⟨_,m1,m2,_⟩:=aGq hd
   have n1:=aJe hN n p.1 d.2.1 (l1.trans hl) (by lia) m1
   have n2:=aJe hN n p.2 d.2.2.1 (l2.trans hl) (by lia) m2
   have:=aGm (tabF ns) n _ [] _ (aJc (t:=tabF ns) hp hd ed) (aLA n1 n2)
   exact fun z=>by rw [z] at this; simp at this
theorem aGr (t:List Bool->List Int) (x:Int):∀ (cs:List (List Bool)) (acc:List Way),acc.length<=(cs.foldl (fun acc c=>updW acc (fbW t 4 c x)) acc).length
 | [],acc=>Ak _
 | c :: r,acc=>Ay (aBo _ acc) (aGr t x r (updW acc (fbW t 4 c x)))
theorem aGs (t:List Bool->List Int) (x:Int):∀ (cs:List (List Bool)) (acc:List Way) {c:List Bool},c∈cs->fbW t 4 c x≠[]->1<=(cs.foldl (fun acc c=>updW acc (fbW t 4 c x)) acc).length
 | [],acc,c,h,_=>nomatch h
 | d :: r,acc,c,h,hn=>by
  rcases Aj.mp h with rfl | h
  ·exact Ay (aBp acc hn) (aGr t x r _)
  ·exact aGs t x r _ h hn
theorem aGt (t:List Bool->List Int) (x:Int):∀ (cs:List (List Bool)),(∀ c∈cs,fbW t 4 c x=[])->cs.foldl (fun acc c=>updW acc (fbW t 4 c x)) []=[]
 | [],_=>rfl
 | c :: r,h=>by
  rw [Dw,h c (Am ..)]
  exact aGt t x r fun d hd=>h d (Al _ hd)
theorem aDR (t:List Bool->List Int) (x:Int):∀ (cs:List (List Bool)) (acc:List Way) {y:Way},y∈cs.foldl (fun acc c=>updW acc (fbW t 4 c x)) acc->y∈acc\/∃ c∈cs,y∈fbW t 4 c x
 | [],acc,y,h=>.inl h
 | c :: r,acc,y,h=>by
  rcases aDR t x r _ h with h | ⟨d,hd,h⟩
  ·rcases jf h with h | h
   ·exact .inl h
   ·exact .inr ⟨c,Am ..,h⟩
  ·exact .inr ⟨d,Al _ hd,h⟩
theorem yO {n:Nat} {c:List Bool} (h:c∈chA n):c.length=n/\c.any id=true:=⟨jt _ _ (Bi.mp h).1,(Bi.mp h).2⟩
theorem aAi (c:List Bool):c.count true<=c.length:=List.count_le_length
theorem aED {ns:List Int} (hN:Nums ns) (x:Int):0 < (allW ns x).length↔∃ c∈chA ns.length,x∈rowF (zJ ns c):=by
 constructor
 ·intro h
  apply HR
  intro no
  have:allW ns x=[]:=aGt _ _ _ fun c hc=>qt fun m=>no ⟨c,hc,m⟩
  rw [this] at h; simp at h
 ·rintro ⟨c,hc,h⟩
  have l:=yO hc
  have:=aAi c
  exact aGs _ _ _ _ hc (aJe hN 4 c x l.1 (by have:=hN.1; lia) h)
theorem aJf {ns:List Int} (hN:Nums ns) {x:Int} {y:Way} (h:y∈allW ns x):y.ok 1000000/\y.size<=4:=by
 rcases aDR _ _ _ _ h with h | ⟨c,hc,h⟩
 ·exact nomatch h
 ·have l:=yO hc
  obtain ⟨h1,h2⟩:=aDQ hN 4 c x y l.1 h
  have:=aAi c
  have:=hN.1
  exact ⟨h1,by lia⟩
noncomputable def FE (H:Hp) (kv:List Int×V) (x:Way):Prop:=kv.1=kW x/\Dat H (fP x) kv.2
theorem FE.kt {H H':Hp} (k:KT H H') {kv:List Int×V} {x:Way} (h:FE H kv x):FE H' kv x:=⟨h.1,Dat.kt k _ h.2⟩
theorem aBq {H H':Hp} (k:KT H H') {kvs:List (List Int×V)} {l:List Way} (h:AH (FE H) kvs l):AH (FE H') kvs l:=Paired.mapP h fun _ _ h=>h.kt k
theorem aIU {H:Hp} {k:List Int}:∀ {kvs:List (List Int×V)} {l:List Way},AH (FE H) kvs l->(kvs.any fun kv=>decide (kv.1=k))=(l.any fun y=>decide (kW y=k))
 | _,_,.nil=>rfl
 | _,_,.cons h t=>by rw [Ew,Ew,aIU t,h.1]
theorem aIV {H:Hp} {x:Way} {v:V} (hx:x.ok 1000000) (d:Dat H (fP x) v):∀ {kvs:List (List Int×V)} {l:List Way},AH (FE H) kvs l->(∀ y∈l,y.ok 1000000)->AH (FE H) (kvs.map fun kv=>if kv.1=kW x then (kv.1,v) else kv) l
 | _,_,.nil,_=>.nil
 | _,_,.cons h t,ho=>by
  rw [AA]
  refine .cons ?_ (aIV hx d t fun y hy=>ho y (Al _ hy))
  split
  ·rename_i e
   refine ⟨h.1,?_⟩
   have:fP _=fP x:=aIK (yX (ho _ (Am ..))) (yX hx) (h.1.symm.trans e)
   rw [this]; exact d
  ·exact h
theorem aIW {H:Hp} {kvs:List (List Int×V)} {l:List Way} (h:AH (FE H) kvs l) (ho:∀ y∈l,y.ok 1000000) {x:Way} {v:V} (hx:x.ok 1000000) (d:Dat H (fP x) v):AH (FE H) (putK kvs (kW x) v) (addW l x):=by
 unfold putK addW
 rw [aIU h]
 split
 ·exact aIV hx d h ho
 ·exact yG h ⟨rfl,d⟩
theorem aJg {H:Hp}:∀ {k2:List (List Int×V)} {m:List Way} {k1:List (List Int×V)} {l:List Way},AH (FE H) k1 l->AH (FE H) k2 m->(∀ y∈l,y.ok 1000000)->(∀ y∈m,y.ok 1000000)->AH (FE H) (mgV k1 k2) (updW l m)
 | _,_,_,_,h,.nil,_,_=>h
 | (k,v) :: _,x :: _,k1,l,h,.cons a t,ho,hm=>by
  obtain ⟨a1,a2⟩:=a
  have a1':k=kW x:=a1
  subst a1'
  have hx:=hm x (Am ..)
  exact aJg (k1:=putK k1 (kW x) v) (l:=addW l x) (aIW h ho hx a2) t (fun y hy=>by rcases aEB hy with h | h; exact ho y h; rw [h]; exact hx) fun y hy=>hm y (Al _ hy)
theorem aDS {H:Hp}:∀ {kvs:List (List Int×V)} {l:List Way},AH (FE H) kvs l->(kvs.map fun y=>hsh y.1)=l.map fun x=>hsh (kW x)
 | _,_,.nil=>rfl
 | _,_,.cons h t=>by rw [AA,AA,aDS t,h.1]
noncomputable def NT (H:Hp) (b:Addr):Prop:=∀ u,H b=some u->(∀ ys,u≠.tup ys)/\∀ o ys,u≠.frz o (.tup ys)
theorem aAj {H:Hp} {b a:Addr} {xs:List (List Int×Addr×Value)} (h:Rd H b (DfO P w a xs)):NT H b:=fun u e=>by
 rcases h with h | ⟨o,h⟩ <;> rw [h] at e <;> cases e
 ·exact ⟨fun ys z=>(by cases z),fun o ys z=>(by cases z)⟩
 ·exact ⟨fun ys z=>(by cases z),fun o ys z=>(by cases z)⟩
theorem qR {S:List Addr} {H H':Hp} (k:Keep S H H') (n:∀ b∈S,NT H b):KT H H':=fun b ys e=>k b _ e fun hb=>(n b hb _ e).1 ys rfl
theorem aDT {S:List Addr} {H H':Hp} (k:Keep S H H') (n:∀ b∈S,NT H b) {b:Addr} {ys:List V} (h:Rd H b (.tup ys)):Rd H' b (.tup ys):=by
 rcases h with h | ⟨o,h⟩
 ·exact .inl (k _ _ h fun hb=>(n b hb _ h).1 ys rfl)
 ·exact .inr ⟨o,k _ _ h fun hb=>(n b hb _ h).2 o ys rfl⟩
theorem aGu {S:List Addr} {H H':Hp} (k:Keep S H H') (n:∀ b∈S,NT H b) {a:Addr} (ha:a ∉ S) {kvs:List (List Int×V)} (t:Tf P w H a kvs):Tf P w H' a kvs:=by
 obtain ⟨xs,h1,h2,h3,h4,h5⟩:=t
 exact ⟨xs,k _ _ h1 ha,h2,h3,h4.keeps fun b ys e=>aDT k n e,h5⟩
theorem sz_W {x:Way} (h:x.ok 1000000) (h2:x.size<=12):sz (fP x)<=400:=by have:=aJO h; lia
theorem aGv (l m:List Way) (x:Way):updW l (m++[x])=addW (updW l m) x:=by unfold updW; rw [CZ]; rfl
noncomputable def WOk (l:List Way):Prop:=l.length < 64/\∀ y∈l,y.ok 1000000/\y.size<=4
noncomputable def aJh (P:At) (w:AV):Sp:=fun vs H Q _=>∃ (wd:Str) (a b:Addr) (ka kb:List (List Int×V)) (fs ss:List Way),vs=[.str wd,.ref a,.ref b]/\qI wd/\a≠b/\Tf P w H a ka/\Tf P w H b kb/\AH (FE H) ka fs/\AH (FE H) kb ss/\WOk fs/\WOk ss /\
 ∀ (p:Addr) (kvs:List (List Int×V)) (H':Hp),Keep [a,b] H H'->H p=none->Tf P w H' p kvs->AH (FE H') kvs (jbW wd fs ss)->Q (.ref p) H'
noncomputable abbrev yP:Stmt:=top 32
theorem sc_joined_by:FnScope ["word","firsts","seconds","found","first","second","form"] ["word","firsts","seconds"] (zG yP):=⟨rfl,rfl,rfl,by decide +kernel,rfl,by decide +kernel,by decide +kernel⟩
theorem aLB {f:Addr} {fd:Bu} (F:Fun K "joined_by" "joined_by" yP f fd) (Gorder:Def P w K mg base CX0 1 "order_of" aAg) (Gjoined:Def P w K mg base CX0 5 "joined" aIT):FnOk P w K mg base CX0 6 f fd ["word","firsts","seconds"] (aJh P w):=by
 refine F.ok (k:=5) sc_joined_by (fun vs H Q E h=>?_) (fun cdv A outer s H vs Q E hr h=>?_)
 ·obtain ⟨wd,a,b,ka,kb,fs,ss,rfl,_⟩:=h
  rfl
 obtain ⟨wd,a,b,ka,kb,fs,ss,rfl,hw,hab,ta,tb,pa,pb,⟨lf,of⟩,⟨ls,os⟩,q⟩:=h
 refine ⟨_,(zF (zS (i:=3) sc_joined_by.nd rfl (by first | exact Bc rfl | exact Ba rfl) aAE)
   (zF (yH BD rfl (aB5 (pv 1)) (zK (i:=4) sc_joined_by.nd rfl (by first | exact Bc rfl | exact Ba rfl)) (zI (yH BD rfl (aB5 (pv 2)) (zK (i:=5) sc_joined_by.nd rfl (by first | exact Bc rfl | exact Ba rfl)) (zF (zS (i:=6) sc_joined_by.nd rfl (by first | exact Bc rfl | exact Ba rfl) (zU Gjoined (hr.mono (by lia)) (zB (pv 0) (zB (pv 4) (zB (pv 5) zE)))))
   (zI (aHd (aAM hr) (pv 3) (zU Gorder (hr.mono (by lia)) (zB (pv 6) zE)) (pv 6) rfl))))))
   (zI (zV (pv 3))))),?_⟩
 try dsimp only [Cx.nox,kx1,kx2,kx3,kx4,kx5,kx6,kx7,kx8,kx9,kxa,kxb,kxc]
 have szl:=Bb
 obtain ⟨xa,ga,la,sa,kta,nda⟩:=id ta
 obtain ⟨xb,gb,lb,sb,ktb,ndb⟩:=id tb
 have nt:∀ c∈[a,b],NT H c:=fun c hc=>by
  rcases Aj.mp hc with rfl | hc
  ·exact aAj (.inl ga)
  ·rw [Ae.mp hc]; exact aAj (.inl gb)
 refine fun pf hpf hsf=>?_
 have s0:=Same.new (o:=DfO P w pf []) hpf
 have npa:pf≠a:=(zD ga hpf).symm
 have npb:pf≠b:=(zD gb hpf).symm
 have nS:pf ∉ [a,b]:=fun z=>by
  rcases Aj.mp z with z | z
  ·exact npa z
  ·exact npb (Ae.mp z)
 have prok:∀ (l1 l2:List Way),(∀ y∈l1,∃ f'∈fs,∃ s'∈ss,y=.op wd f' s')->∀ y∈updW [] l1,y.ok 1000000:=fun l1 l2 h y hy=>by
  rcases jf hy with h' | h'
  ·exact nomatch h'
  ·obtain ⟨f',hf',s',hs',rfl⟩:=h y h'
   exact ⟨hw,(of f' hf').1,(os s' hs').1⟩
 refine ⟨_,rfl,a,xa,ka,rfl,sa,.inl (s0 _ _ ga),fun oa HA fzA kA=>?_⟩
 have keA:Keep [a,b] H HA:=fun c u e n=>by
  rw [kA c (fun z=>n (by rw [z]; exact Am ..))]
  exact s0 _ _ e
 refine aAa (d:=a) (o:=oa) (xs:=xa) (kvs:=ka) (fun i σ H'=>∃ (z4 z5 z6:Option V) (kv:List (List Int×V)),σ=[some (.str wd),some (.ref a),some (.ref b),some (.ref pf),z4,z5,z6]/\Keep [a,b] H H'/\H' a=some (.frz oa (DfO P w a xa))/\Rd H' b (DfO P w b xb)/\Tf P w H' pf kv/\AH (FE H') kv (updW [] (prW wd (fs.take i) ss)))
  ⟨none,none,none,[],rfl,keA,fzA,.inl (by rw [kA b hab.symm]; exact s0 _ _ gb),⟨[],by rw [kA pf npa]; exact zC,AL _,hsf,.nil,Dc⟩,by rw [CI]; exact .nil⟩
  (fun i σ H' ⟨_,_,_,_,_,k,fz,_⟩=>⟨fz,kta.keeps fun c ys e=>aDT k nt e⟩) ?_ ?_
 ·rintro i k x σ H2 hi ⟨z4,z5,z6,kv,rfl,k2,fz2,rb2,t2,p2⟩
  obtain ⟨fw,hfw,_,dfw⟩:=zq pa hi
  have hfm:=Au hfw
  refine ⟨_,rfl,b,xb,kb,rfl,sb,rb2,fun ob HB fzB kB=>?_⟩
  have keB:Keep [a,b] H HB:=fun c u e n=>by
   rw [kB c (fun z=>n (by rw [z]; exact Al _ (Ae.mpr rfl)))]
   exact k2 _ _ e n
  have ke2B:Keep [b] H2 HB:=fun c u e n=>by rw [kB c (fun z=>n (Ae.mpr z))]; exact e
  have ntb2:∀ c∈[b],NT H2 c:=fun c hc=>by rw [Ae.mp hc]; exact aAj rb2
  refine aAa (d:=b) (o:=ob) (xs:=xb) (kvs:=kb) (fun j σ H'=>∃ (z5 z6:Option V) (kv:List (List Int×V)),σ=[some (.str wd),some (.ref a),some (.ref b),some (.ref pf),some x,z5,z6]/\Keep [a,b] H H'/\H' a=some (.frz oa (DfO P w a xa))/\H' b=some (.frz ob (DfO P w b xb))/\Tf P w H' pf kv/\AH (FE H') kv (updW [] (prW wd (fs.take i) ss++(ss.take j).map fun s=>Way.op wd fw s)))
   ⟨z5,z6,kv,rfl,keB,by rw [kB a hab]; exact fz2,fzB,aGu ke2B ntb2 (fun z=>npb (Ae.mp z)) t2,by rw [CI,BX,AM]; exact aBq (qR ke2B ntb2) p2⟩
   (fun j σ H' ⟨_,_,_,_,k,_,fz,_⟩=>⟨fz,ktb.keeps fun c ys e=>aDT k nt e⟩) ?_ ?_
  ·rintro j k' y σ H3 hj ⟨z5,z6,kv3,rfl,k3,fa3,fb3,t3,p3⟩
   obtain ⟨sw,hsw,_,dsw⟩:=zq pb hj
   have hsm:=Au hsw
   have kt3:=qR k3 nt
   have ow:(Way.op wd fw sw).ok 1000000:=⟨hw,(of fw hfm).1,(os sw hsm).1⟩
   have z1:(Way.op wd fw sw).size<=12:=by
    have h1:=(of fw hfm).2
    have h2:=(os sw hsm).2
    show fw.size + sw.size<=12
    lia
   refine ⟨_,rfl,_,rfl,_,rfl,wd,x,y,fw,sw,rfl,ow,z1,Dat.kt kt3 _ dfw,Dat.kt kt3 _ dsw,fun t H4 s4 d4=>?_⟩
   refine ⟨_,rfl,_,rfl,_,rfl,t,_,rfl,d4,yX ow,sz_W ow z1,fun tk H5 s5 gk=>?_⟩
   have s45:=s4.trans s5
   have t5:=t3.same s45
   have lkv:kv3.length<=10000:=by
    rw [p3.length]
    have h1:=aGk (prW wd (fs.take i) ss++(ss.take j).map fun s=>Way.op wd fw s) []
    rw [EO,Ai,Ah,Bz] at h1
    have h2:(prW wd (fs.take i) ss).length<=64 * 64:=by
     unfold prW
     have:=aGg (fun f=>ss.map fun s=>Way.op wd f s) 64 (fs.take i) fun x _=>by rw [Ah]; lia
     rw [Bz] at this
     have h3:min i fs.length * 64<=64 * 64:=JR _ (by lia)
     lia
    lia
   refine ⟨pf,tk,kv3,kW (.op wd fw sw),rfl,rfl,t5,.inl gk,by rw [szl]; lia,fun H6 k6 t6=>?_⟩
   have k56:Keep [pf] H5 H6:=fun c u e n=>by rw [k6 c (fun z=>n (Ae.mpr z))]; exact e
   have nt5:∀ c∈[pf],NT H5 c:=fun c hc=>by
    obtain ⟨xf,gf,_⟩:=t5
    rw [Ae.mp hc]; exact aAj (.inl gf)
   refine ⟨_,_,_,rfl,fun c u e n=>?_,?_,?_,t6,?_⟩
   ·rw [k6 c (zD e hpf)]
    exact s45 _ _ (k3 _ _ e n)
   ·rw [k6 a npa.symm]; exact s45 _ _ fa3
   ·rw [k6 b npb.symm]; exact s45 _ _ fb3
   ·rw [zO hsw,Bh,<- By,AA,BX,aGv]
    refine aBq (qR k56 nt5) (aIW (aBq (KT.same s45) p3) (prok _ [] fun y hy=>?_) ow (Dat.kt (KT.same s5) _ d4))
    rcases Bj.mp hy with hy | hy
    ·obtain ⟨f',hf',hy⟩:=AS.mp hy
     obtain ⟨s',hs',rfl⟩:=Bk.mp hy
     exact ⟨f',CN hf',s',hs',rfl⟩
    ·obtain ⟨s',hs',rfl⟩:=Bk.mp hy
     exact ⟨fw,hfm,s',CN hs',rfl⟩
  ·rintro σ H3 ⟨z5,z6,kv3,rfl,k3,fa3,fb3,t3,p3⟩
   refine ⟨_,_,_,kv3,rfl,k3,fa3,.inr ⟨_,fb3⟩,t3,?_⟩
   rw [pb.length,AE] at p3
   have:prW wd (fs.take (i + 1)) ss=prW wd (fs.take i) ss++ss.map fun s=>Way.op wd fw s:=by
    unfold prW
    rw [zO hfw,BP]
    simp
   rw [this]
   exact p3
 ·rintro σ H2 ⟨z4,z5,z6,kv,rfl,k2,fz2,rb2,t2,p2⟩
  rw [pa.length,AE] at p2
  exact ⟨_,rfl,q pf kv H2 k2 hpf t2 p2⟩
noncomputable def inI (x:Int) (r:List Int):Bool:=decide (x∈r)
theorem aDU (x:Int):∀ r:List Int,inV (.int x) (r.map V.int)=inI x r
 | []=>rfl
 | y :: r=>by
  show (eqV (V.int y) (V.int x) || inV (.int x) (r.map V.int))=inI x (y :: r)
  rw [aDU x r]
  unfold inI
  show ((y == x) || _)=_
  by_cases h:x=y
  ·subst h; simp
  ·have:(y == x)=false:=by rw [beq_eq_false_iff_ne]; exact fun z=>h z.symm
   rw [this]
   simp [h]
theorem aAk:∀ r:List Int,(r.map V.int).all aBG=true
 | []=>rfl
 | y :: r=>by rw [AA,Iv,aAk r]; rfl
theorem aIX {t:List Bool->List Int} {n:Nat} {c:List Bool} (h:GdT t n c) (x:Int):(fbW t n c x).length < 64:=by
 cases n with
 | zero=>show 0 < 64; decide
 | succ n=>exact (h.1 x).1
theorem aJi (t:List Bool->List Int) (n:Nat) (cur rest:List Cut):(cur.foldl (stF t n) []).length<=((cur++rest).foldl (stF t n) []).length:=by
 rw [CZ]; exact aGl t n rest _
theorem aJj {t:List Bool->List Int} {x:Int} {sp:List (List Bool×List Bool)} {i j:Nat} {p:List Bool×List Bool} (h:sp[i]?=some p) :
  ∃ rest,sp.flatMap (cutP t x)=((sp.take i).flatMap (cutP t x)++(((dbL (t p.1) (t p.2)).take j).filter fun d=>decide (d.2.2.2=x)).map fun d=>(d,p.1,p.2))++rest:=by
 have e1:sp=sp.take i++(p :: sp.drop (i + 1)):=by
  have h2:=(Aq.mp h)
  obtain ⟨hi,hp⟩:=h2
  rw [<- hp,List.getElem_cons_drop,Ee]
 have e2:cutP t x p=((((dbL (t p.1) (t p.2)).take j).filter fun d=>decide (d.2.2.2=x)).map fun d=>(d,p.1,p.2))++((((dbL (t p.1) (t p.2)).drop j).filter fun d=>decide (d.2.2.2=x)).map fun d=>(d,p.1,p.2)):=by
  unfold cutP
  rw [<- Bh,<- Hu,Ee]
 refine ⟨((((dbL (t p.1) (t p.2)).drop j).filter fun d=>decide (d.2.2.2=x)).map fun d=>(d,p.1,p.2))++(sp.drop (i + 1)).flatMap (cutP t x),?_⟩
 have e3:sp.flatMap (cutP t x)=(sp.take i++(p :: sp.drop (i + 1))).flatMap (cutP t x):=congrArg (fun l=>l.flatMap (cutP t x)) e1
 rw [e3,BP,Bm,e2]
 simp only [By]
theorem aIY {ns:List Int} (hN:Nums ns) {n:Nat} {c:List Bool} (hl:c.length=ns.length) (g:GdT (tabF ns) n c) (x:Int):WOk (fbW (tabF ns) n c x):=by
 refine ⟨aIX g x,fun y hy=>?_⟩
 obtain ⟨h1,h2⟩:=aDQ hN n c x y hl hy
 have:=aAi c
 have:=hN.1
 exact ⟨h1,by lia⟩
theorem aM2 {wd:Str} {fs ss:List Way} (hw:qI wd) (hf:WOk fs) (hs:WOk ss):∀ y∈jbW wd fs ss,y.ok 1000000:=fun y hy=>by
 obtain ⟨f,h1,s,h2,rfl⟩:=aGo hy
 exact ⟨hw,(hf.2 f h1).1,(hs.2 s h2).1⟩
noncomputable def aGw (P:At) (w:AV) (n:Nat):Sp:=fun vs H Q _=>∃ (t q:Addr) (ns:List Int) (c:List Bool) (x:Int) (kvs:List (List Bool×V)),vs=[.ref t,.ref q,.int x]/\TbX P w H t kvs/\AH (Ent ns H) kvs (chA ns.length)/\Rd H q (.tup (c.map V.bl))/\c∈chA ns.length/\Nums ns/\c.count true<=n/\GdT (tabF ns) n c /\
 ∀ (p:Addr) (kf:List (List Int×V)) (H':Hp),Same H H'->H p=none->Tf P w H' p kf->AH (FE H') kf (fbW (tabF ns) n c x)->Q (.ref p) H'
noncomputable abbrev yQ:Stmt:=top 31
theorem sc_forms_by:FnScope ["table","choice","worth","found","one","rest","word","first","second","come"] ["table","choice","worth"] (zG yQ):=⟨rfl,rfl,rfl,by decide +kernel,rfl,by decide +kernel,by decide +kernel⟩
theorem aEp {n:Nat} {f:Addr} {fd:Bu} (F:Fun K "forms_by" "forms_by" yQ f fd) (B:Blt mg) (Gorder:Def P w K mg base CX0 1 "order_of" aAg) (Gspl:Def P w K mg base CX0 1 "splits_of" (aHo K)) (Gdb:Def P w K mg base CX0 7 "deeds_between" spDb) (Gjby:Def P w K mg base CX0 6 "joined_by" (aJh P w))
  (Gfb:Def P w K mg base CX0 (n + 7) "forms_by" (aGw P w n)):FnOk P w K mg base CX0 (n + 8) f fd ["table","choice","worth"] (aGw P w (n + 1)):=by
 refine F.ok (k:=n + 7) sc_forms_by (fun vs H Q E h=>?_) (fun cdv A outer s H vs Q E hr h=>?_)
 ·obtain ⟨t,q,ns,c,x,kvs,rfl,_⟩:=h
  rfl
 obtain ⟨t,q0,ns,c,x,kvs,rfl,tx,pe,rq,hc,hN,hcn,gd,q⟩:=h
 obtain ⟨hl,hany⟩:=yO hc
 have hN4:=hN.1
 obtain ⟨v,ev,qv,rfl,gqv⟩:=aAe pe hc
 refine ⟨_,(zF (qw (zc aC2 (pv 2) (aBf (aAM hr) (pv 0) (pv 1) (fun _ _=>rfl)) rfl) (zI (zV aAE)) yC)
   (zF (qw (zc aCn (zY zu rfl B.len aAv (zB (yT (N:=["truth"]) rfl (yn [none] rfl (by decide +kernel) (by decide +kernel) rfl rfl) rfl (aAH (pv 1)) (fun _ _ _ _=>(zK (i:=0) (show (["truth"]:List Str).Nodup by decide +kernel) rfl (by first | exact Bc rfl | exact Ba rfl))) (fun _ _ _ _=>(qX (aIP (pv 0) (fun _=>rfl)))) (fun _ _ _ _=>(pv 0))) zE)) zM (zn _)) (zI (zV (aGU (aAM hr) (zU Gorder (hr.mono (by lia)) (zB (pv 2) zE)) (pv 2)))) yC)
   (zF (zS (i:=3) sc_forms_by.nd rfl (by first | exact Bc rfl | exact Ba rfl) aAE)
   (zF (yH BD rfl (zr (zU Gspl (hr.mono (by lia)) (zB (pv 1) zE))) (qA rfl (zP (zK (i:=4) sc_forms_by.nd rfl (by first | exact Bc rfl | exact Ba rfl)) (zP (zK (i:=5) sc_forms_by.nd rfl (by first | exact Bc rfl | exact Ba rfl)) yK))) (zI (yH BD rfl (zr (zU Gdb (hr.mono (by lia)) (zB (aBf (aAM hr) (pv 0) (pv 4) (fun _ _=>rfl)) (zB (aBf (aAM hr) (pv 0) (pv 5) (fun _ _=>rfl)) zE)))) (qA rfl (zP (zK (i:=6) sc_forms_by.nd rfl (by first | exact Bc rfl | exact Ba rfl)) (zP (zK (i:=7) sc_forms_by.nd rfl (by first | exact Bc rfl | exact Ba rfl)) (zP (zK (i:=8) sc_forms_by.nd rfl (by first | exact Bc rfl | exact Ba rfl)) (zP (zK (i:=9) sc_forms_by.nd rfl (by first | exact Bc rfl | exact Ba rfl)) yK))))) (zI (qw (zc aCn (pv 9) (pv 2) (zn _)) (zI (yJ (aGX (aAM hr) (pv 3) (zU Gjby (hr.mono (by lia)) (zB (pv 6) (zB (zU Gfb (hr.mono (by lia)) (zB (pv 0) (zB (pv 4) (zB (pv 7) zE)))) (zB (zU Gfb (hr.mono (by lia)) (zB (pv 0) (zB (pv 5) (zB (pv 8) zE)))) zE))))))) yC)))))
   (zI (zV (pv 3))))))),?_⟩
 try dsimp only [Cx.nox,kx1,kx2,kx3,kx4,kx5,kx6,kx7,kx8,kx9,kxa,kxb,kxc]
 have szl:=Bb
 refine ⟨_,rfl,_,rfl,_,rfl,t,q0,kvs,c,.ref qv,rfl,rfl,tx,rq,ev,qv,_,rfl,.inr (SqT.of gqv),rfl,aAk _,_,rfl,?_⟩
 rw [if_pos rfl,aDU]
 unfold inI
 by_cases hx:x∈rowF (zJ ns c)
 rotate_left
 ·rw [decide_eq_false hx]
  refine iteT ?_
  exact fun p hp hsys=>q p [] _ (Same.new hp) hp (Tf.new hsys) (by rw [qt (t:=tabF ns) hx]; exact .nil)
 rw [decide_eq_true hx]
 refine iteF ?_
 refine ⟨_,rfl,q0,rfl,⟨_,.inl rq⟩,fun D hD C s2 fp=>?_⟩
 refine aHC (K:=K) (a:=q0) (xs:=c.map V.bl) (fun i zs σ H3=>∃ (o1:Option V),σ=[o1]/\Same H H3/\zs=Fg ((c.take i).count true) (V.bl true)) (fun i zs σ H3 ⟨_,_,g,_⟩=>.inl (jG g rq)) ⟨none,rfl,Same.new hD,by rw [CI]; rfl⟩ ?_ ?_
 ·rintro i v zs σ H3 hi hzl ⟨o1,rfl,s3,rfl⟩ g3
  obtain ⟨b,hb,rfl⟩:=jH hi
  have ec:(c.take (i + 1)).count true=(c.take i).count true + (if b=true then 1 else 0):=by
   rw [zO hb,List.count_append]
   cases b <;> rfl
  have hil:=(Aq.mp hi).1
  rw [Ah] at hil
  refine ⟨_,rfl,b,rfl,?_⟩
  cases b with
  | false=>exact iteF ⟨_,DO hzl,⟨_,rfl,s3,by rw [ec]; rfl⟩,g3⟩
  | true =>
   refine iteT ⟨_,rfl,_,g3,by rw [szl]; lia,_,by rw [Ai]; exact CJ hzl,⟨_,rfl,zf s3 hD,?_⟩,zC⟩
   rw [ec]
   exact (List.replicate_succ').symm
 ·rintro zs σ H3 ⟨o1,rfl,s3,rfl⟩ g3
  rw [Ah,AE] at g3
  refine ⟨D,_,rfl,.inl (SqL.of g3),rfl,_,rfl,?_⟩
  rw [EM]
  refine ite2 (fun e=>?_) (fun e=>?_)
  ·have h1:c.count true=1:=by have:=V.int.inj (of_decide_eq_true e); lia
   obtain ⟨x1,x2⟩:=aEC hN hl h1 hx
   refine fun p hp=>⟨_,rfl,.int x,.int x,rfl,Dat.intI x,.num x1 x2,by rw [sz]; decide; all_goals simp,fun t' H4 s4 gt=>⟨_,rfl,t',kD (.int x),rfl,s4 _ _ zC,.inl gt,fun H5 k5 t5=>?_⟩⟩
   have np:H p=none:=zT s3 hp
   refine q p _ H5 (fun b u e=>by rw [k5 b (zD e np)]; exact s4 _ _ (Same.new hp _ _ (s3 _ _ e))) np t5 ?_
   rw [aAh (t:=tabF ns) hx h1]
   exact .cons ⟨rfl,Dat.intI x⟩ .nil
  have h1:c.count true≠1:=fun z=>e (decide_eq_true (by rw [z]; rfl))
  have efb:=je (t:=tabF ns) (n:=n) hx h1
  have flen:=aIX gd x
  rw [efb] at q flen
  refine fun pf hpf hsf=>?_
  have npf:H pf=none:=zT s3 hpf
  have s3f:Same H (upd H3 pf (DfO P w pf [])):=s3.trans (Same.new hpf)
  refine ⟨_,rfl,q0,c,rfl,jG s3f rq,by lia,fun ps ys H4 s4 nps gps pps=>?_⟩
  have gf4:=s4 _ _ (show (upd H3 pf (DfO P w pf [])) pf=some (DfO P w pf []) from zC)
  have sH4:=s3f.trans s4
  have ntf:∀ c∈[pf],NT H4 c:=fun c hc=>by rw [Ae.mp hc]; exact aAj (.inl gf4)
  refine ⟨ps,rfl,⟨_,SqL.of gps⟩,qN (K:=K) (a:=ps) (xs:=ys) (fun i σ H'=>∃ (z1 z2 z3 z4 z5 z6:Option V) (kf:List (List Int×V)),σ=[some (.ref t),some (.ref q0),some (.int x),some (.ref pf),z1,z2,z3,z4,z5,z6]/\Same H H'/\Keep [pf] H4 H'/\Tf P w H' pf kf/\AH (FE H') kf ((((zX c).take i).flatMap (cutP (tabF ns) x)).foldl (stF (tabF ns) n) []))
   ⟨none,none,none,none,none,none,[],rfl,sH4,Keep.refl _ _,⟨[],gf4,AL _,hsf,.nil,Dc⟩,by rw [CI]; exact .nil⟩ (fun i σ H' _ ⟨_,_,_,_,_,_,_,_,_,k,_⟩=>SqL.of (k _ _ gps (fun z=>?_))) ?_ ?_⟩
  ·rw [Ae.mp z,gf4] at gps; cases gps
  ·rintro i y σ H5 hi ⟨z1,z2,z3,z4,z5,z6,kf,rfl,s5,k5,t5,p5⟩
   obtain ⟨p,hp,hw⟩:=zq pps hi
   have hps:p∈zX c:=Au hp
   obtain ⟨qx,u1,u2,rfl,gq,⟨q1,rfl,gq1⟩,⟨q2,rfl,gq2⟩⟩:=hw
   have kt5:=qR k5 ntf
   obtain ⟨cc,cn1,cn2,l1,l2,a1,a2⟩:=jI hps
   have m1:p.1∈chA ns.length:=Bi.mpr ⟨ju _ _ (l1.trans hl),a1⟩
   have m2:p.2∈chA ns.length:=Bi.mpr ⟨ju _ _ (l2.trans hl),a2⟩
   obtain ⟨gd1,gd2,gdj⟩:=gd.2 p hps
   have tx5:=tx.same s5
   have pe5:AH (Ent ns H5) kvs (chA ns.length):=Paired.mapP pe fun _ _ h=>h.kt (KT.same s5)
   obtain ⟨v1,e1,r1,rfl,gr1⟩:=aAe pe5 m1
   obtain ⟨v2,e2,r2,rfl,gr2⟩:=aAe pe5 m2
   obtain ⟨ll1,ll2⟩:=aEA hN hl.symm hps
   refine ⟨qx,_,rfl,SqT.of (kt5 _ _ gq),rfl,_,_,rfl,_,_,rfl,rfl,?_⟩
   refine ⟨_,rfl,_,rfl,t,q1,kvs,p.1,_,rfl,rfl,tx5,.inl (kt5 _ _ gq1),e1,_,rfl,_,rfl,t,q2,kvs,p.2,_,rfl,rfl,tx5,.inl (kt5 _ _ gq2),e2,?_⟩
   refine ⟨r1,r2,_,_,rfl,gr1,gr2,ll1,ll2,aE9 hN _,aE9 hN _,fun pz zs H6 s6 _ gz pzs=>?_⟩
   have t6:=t5.same s6
   have nt6:∀ c∈[pf],NT H6 c:=fun c hc=>by
    obtain ⟨xf,gf,_⟩:=t6
    rw [Ae.mp hc]; exact aAj (.inl gf)
   refine ⟨pz,rfl,⟨_,SqL.of gz⟩,qN (K:=K) (a:=pz) (xs:=zs) (fun j σ H'=>∃ (z3 z4 z5 z6:Option V) (kf:List (List Int×V)),σ=[some (.ref t),some (.ref q0),some (.int x),some (.ref pf),some (.ref q1),some (.ref q2),z3,z4,z5,z6]/\Same H H'/\Keep [pf] H6 H'/\Tf P w H' pf kf/\AH (FE H') kf ((((zX c).take i).flatMap (cutP (tabF ns) x)++(((dbL (tabF ns p.1) (tabF ns p.2)).take j).filter fun d=>decide (d.2.2.2=x)).map fun d=>(d,p.1,p.2)).foldl (stF (tabF ns) n) []))
    ⟨_,_,_,_,kf,rfl,s5.trans s6,Keep.refl _ _,t6,by rw [CI]; simp only [JE,BX,AM]; exact aBq (KT.same s6) p5⟩ (fun i σ H' _ ⟨_,_,_,_,_,_,_,k,_⟩=>SqL.of (k _ _ gz (fun z=>?_))) ?_ ?_⟩
   ·obtain ⟨xf,gf,_⟩:=t6
    rw [Ae.mp z,gf] at gz; cases gz
   ·rintro j y σ H7 hj ⟨z3,z4,z5,z6,kf7,rfl,s7,k7,t7,p7⟩
    obtain ⟨dd,hd,qd,rfl,gdd⟩:=zq pzs hj
    have hd':(dbL (tabF ns p.1) (tabF ns p.2))[j]?=some dd:=hd
    have hdm:=Au hd'
    obtain ⟨ow,_,_,_⟩:=aGq hdm
    have kt7:=qR k7 nt6
    have ef:((dbL (tabF ns p.1) (tabF ns p.2)).take (j + 1)).filter (fun d=>decide (d.2.2.2=x))=((dbL (tabF ns p.1) (tabF ns p.2)).take j).filter (fun d=>decide (d.2.2.2=x))++(if decide (dd.2.2.2=x)=true then [dd] else []):=yt hd' _
    refine ⟨qd,_,rfl,SqT.of (kt7 _ _ gdd),rfl,_,_,rfl,_,_,rfl,_,_,rfl,_,_,rfl,rfl,?_⟩
    refine ⟨_,rfl,_,rfl,rfl,_,rfl,?_⟩
    refine ite2 (fun e=>?_) (fun e=>?_)
    rotate_left
    ·have ne:¬ dd.2.2.2=x:=fun z=>e (decide_eq_true (by rw [z]))
     refine ⟨_,_,_,_,kf7,rfl,s7,k7,t7,?_⟩
     rw [ef,if_neg (by rw [decide_eq_false ne]; decide),AM]
     exact p7
    have ee:dd.2.2.2=x:=V.int.inj (of_decide_eq_true e)
    rw [if_pos (decide_eq_true ee)] at ef
    have tx7:=tx.same s7
    have pe7:AH (Ent ns H7) kvs (chA ns.length):=Paired.mapP pe fun _ _ h=>h.kt (KT.same s7)
    refine ⟨_,rfl,pf,kf7,rfl,t7,?_⟩
    refine ⟨_,rfl,_,rfl,_,rfl,_,rfl,t,q1,ns,p.1,dd.2.1,kvs,rfl,tx7,pe7,.inl (kt7 _ _ (s6 _ _ (kt5 _ _ gq1))),m1,hN,by lia,gd1,fun a1 k1 H8 s8 n8 t8 e8=>?_⟩
    refine ⟨_,rfl,_,rfl,_,rfl,t,q2,ns,p.2,dd.2.2.1,kvs,rfl,tx7.same s8,Paired.mapP pe7 fun _ _ h=>h.kt (KT.same s8),.inl (s8 _ _ (kt7 _ _ (s6 _ _ (kt5 _ _ gq2)))),m2,hN,by lia,gd2,fun a2 k2 H9 s9 n9 t9 e9=>?_⟩
    have ne12:a1≠a2:=by
     obtain ⟨_,g,_⟩:=t8
     exact zD g n9
    have w1:=aIY hN (l1.trans hl) gd1 dd.2.1
    have w2:=aIY hN (l2.trans hl) gd2 dd.2.2.1
    have t89:=t8.same s9
    have ntd:∀ c∈[a1,a2],NT H9 c:=fun c hc=>by
     obtain ⟨x1,g1,_⟩:=t89
     obtain ⟨x2,g2,_⟩:=t9
     rcases Aj.mp hc with rfl | hc
     ·exact aAj (.inl g1)
     ·rw [Ae.mp hc]; exact aAj (.inl g2)
    refine ⟨dd.1,a1,a2,k1,k2,_,_,rfl,ow,ne12,t89,t9,aBq (KT.same s9) e8,e9,w1,w2,fun p3 k3 HA kA n3 tA eA=>?_⟩
    have s79:=s8.trans s9
    have nf1:pf ∉ [a1,a2]:=fun z=>by
     obtain ⟨_,g,_⟩:=t7
     rcases Aj.mp z with z | z
     ·rw [z,n8] at g; cases g
     ·have:=s8 _ _ g
      rw [Ae.mp z,n9] at this; cases this
    have tfA:=aGu kA ntd nf1 (t7.same s79)
    have nfp:pf≠p3:=fun z=>by
     obtain ⟨_,g,_⟩:=t7.same s79
     rw [z,n3] at g; cases g
    have pA:AH (FE HA) kf7 _:=aBq ((KT.same s79).trans (qR kA ntd)) p7
    obtain ⟨rest,er⟩:=aJj (t:=tabF ns) (x:=x) (j:=j) hp
    have lk:kf7.length < 64:=by
     rw [p7.length]
     have:=aJi (tabF ns) n (((zX c).take i).flatMap (cutP (tabF ns) x)++(((dbL (tabF ns p.1) (tabF ns p.2)).take j).filter fun d=>decide (d.2.2.2=x)).map fun d=>(d,p.1,p.2)) rest
     rw [<- er] at this
     lia
    have okj:=gdj dd hdm
    refine ⟨p3,kf7,k3,rfl,nfp,tfA,tA,by rw [szl,eA.length]; have:=okj.1; lia,fun _=>by rw [aDS eA]; exact okj.2,fun HB kB tB=>?_⟩
    have kAB:Keep [pf] HA HB:=fun c u e n=>by rw [kB c (fun z=>n (Ae.mpr z))]; exact e
    have ntA:∀ c∈[pf],NT HA c:=fun c hc=>by
     obtain ⟨_,g,_⟩:=tfA
     rw [Ae.mp hc]; exact aAj (.inl g)
    have sHB:Same H HB:=fun b u eb=>by
     rw [kB b (zD eb npf)]
     refine kA _ _ (s79 _ _ (s7 _ _ eb)) fun z=>?_
     rcases Aj.mp z with z | z
     ·rw [z] at eb
      have:=s7 _ _ eb
      rw [n8] at this; cases this
     ·rw [Ae.mp z] at eb
      have:=s8 _ _ (s7 _ _ eb)
      rw [n9] at this; cases this
    refine ⟨_,_,_,_,_,rfl,sHB,fun b u eb nb=>?_,tB,?_⟩
    ·have g7:=k7 _ _ eb nb
     rw [kB b (fun z=>nb (Ae.mpr z))]
     refine kA _ _ (s79 _ _ g7) fun z=>?_
     rcases Aj.mp z with z | z
     ·rw [z,n8] at g7; cases g7
     ·have:=s8 _ _ g7
      rw [Ae.mp z,n9] at this; cases this
    ·rw [ef,Bh,<- By,CZ]
     refine aBq (qR kAB ntA) (aJg pA eA (fun y hy=>?_) (aM2 ow w1 w2))
     refine (aDQ hN (n + 1) c x y hl ?_).1
     rw [efb,er,CZ]
     have sub:∀ (l:List Cut) (acc:List Way) (y:Way),y∈acc->y∈l.foldl (stF (tabF ns) n) acc:=by
      have sub1:∀ (m acc:List Way) (y:Way),y∈acc->y∈updW acc m:=by
       intro m
       induction m with
       | nil=>intro acc y h; exact h
       | cons a r ih =>
        intro acc y h
        refine ih (addW acc a) y ?_
        unfold addW
        split
        ·exact h
        ·exact Bj.mpr (.inl h)
      intro l
      induction l with
      | nil=>intro acc y h; exact h
      | cons a r ih=>intro acc y h; exact ih _ y (sub1 _ _ _ h)
     exact sub _ _ _ hy
   ·rintro σ H7 ⟨z3,z4,z5,z6,kf7,rfl,s7,k7,t7,p7⟩
    refine ⟨_,_,_,_,_,_,kf7,rfl,s7,fun b o e n=>k7 b o (s6 _ _ (k5 b o e n)) n,t7,?_⟩
    have el:zs.length=(dbL (tabF ns p.1) (tabF ns p.2)).length:=pzs.length
    rw [el,AE] at p7
    have:((zX c).take (i + 1)).flatMap (cutP (tabF ns) x)=((zX c).take i).flatMap (cutP (tabF ns) x)++((dbL (tabF ns p.1) (tabF ns p.2)).filter fun d=>decide (d.2.2.2=x)).map fun d=>(d,p.1,p.2):=by
     rw [zO hp,BP,Bm,EC,AM]; rfl
    rw [this]
    exact p7
  ·rintro σ H5 ⟨z1,z2,z3,z4,z5,z6,kf,rfl,s5,k5,t5,p5⟩
   rw [pps.length,AE] at p5
   exact ⟨_,rfl,q pf kf H5 s5 npf t5 p5⟩
theorem aIZ {f:Addr} {fd:Bu} (F:Fun K "forms_by" "forms_by" yQ f fd) (b:Binds K fd ["table","choice","worth"] []) (m:mg "forms_by"=some (.ref f)) (B:Blt mg) (Gorder:Def P w K mg base CX0 1 "order_of" aAg) (Gspl:Def P w K mg base CX0 1 "splits_of" (aHo K)) (Gdb:Def P w K mg base CX0 7 "deeds_between" spDb) (Gjby:Def P w K mg base CX0 6 "joined_by" (aJh P w)) :
  ∀ n,FnOk P w K mg base CX0 (n + 7) f fd ["table","choice","worth"] (aGw P w n)
 | 0=>by
  have no:∀ vs H Q E,¬ aGw P w 0 vs H Q E:=fun vs H Q E h=>by
   obtain ⟨t,q,ns,c,x,kvs,_,_,_,_,hc,_,h0,_⟩:=h
   have:=(qH c).mp (yO hc).2
   lia
  exact ⟨fun vs H Q E h=>absurd h (no vs H Q E),fun A outer s H args us vs Q E _ _ _ _ h=>absurd h (no vs H Q E)⟩
 | n + 1=>aEp F B Gorder Gspl Gdb Gjby (yp (aIZ F b m B Gorder Gspl Gdb Gjby n) b m F.kp)
theorem aGx {κ:Type} [DecidableEq κ]:∀ {kvs:List (κ×V)} {k:κ} {v:V},(kvs.map (·.1)).Nodup->(k,v)∈kvs->valV kvs k=some v
 | (k',v') :: r,k,v,nd,h=>by
  obtain ⟨n1,n2⟩:=Dv.mp nd
  rcases Aj.mp h with e | h
  ·cases e; exact jV rfl
  ·rw [jW (fun e=>n1 (by show k'∈_; rw [show k'=k from e]; exact Bk.mpr ⟨_,h,rfl⟩))]
   exact aGx n2 h
theorem aM3 {H:Hp} {a:Addr} {kvs:List (List Int×V)} (t:Tf P w H a kvs):(kvs.map (·.1)).Nodup:=by
 obtain ⟨xs,_,_,_,h4,h5⟩:=t
 rw [<- aCW h4]; exact h5
theorem aJk (t:List Bool->List Int) (x:Int) (cs:List (List Bool)) (i:Nat):((cs.take i).foldl (fun acc c=>updW acc (fbW t 4 c x)) []).length<=(cs.foldl (fun acc c=>updW acc (fbW t 4 c x)) []).length:=by
 have e:cs.foldl (fun acc c=>updW acc (fbW t 4 c x)) []=(cs.drop i).foldl (fun acc c=>updW acc (fbW t 4 c x)) ((cs.take i).foldl (fun acc c=>updW acc (fbW t 4 c x)) []):=by
  rw [<- CZ,Ee]
 rw [e]
 exact aGr t x _ _
noncomputable def aJl:Sp:=fun vs H Q _=>∃ (a:Addr) (ns:List Int) (x:Int),vs=[.ref a,.int x]/\H a=some (.tup (ns.map V.int))/\Nums ns/\GdN ns/\∀ (p:Addr) (ws:List V) (l:List Way) (H':Hp),Same H H'->H p=none->H' p=some (.lst ws)->l.Perm (allW ns x)->AH (fun v y=>Dat H' (fP y) v) ws l->l.Pairwise (fun a b=>lx (kW b) (kW a)=false)->Q (.ref p) H'
noncomputable abbrev yR:Stmt:=top 29
theorem sc_all_forms:FnScope ["numbers","wish","table","found","choice"] ["numbers","wish"] (zG yR):=⟨rfl,rfl,rfl,by decide +kernel,rfl,by decide +kernel,by decide +kernel⟩
theorem aLC {f:Addr} {fd:Bu} (F:Fun K "all_forms" "all_forms" yR f fd) (Bsorted:mg "sorted"=none) (Gtab:Def P w K mg base CX0 10 "table_of" (aJY P w)) (Gfb:Def P w K mg base CX0 11 "forms_by" (aGw P w 4)):FnOk P w K mg base CX0 12 f fd ["numbers","wish"] aJl:=by
 refine F.ok (k:=11) sc_all_forms (fun vs H Q E h=>?_) (fun cdv A outer s H vs Q E hr h=>?_)
 ·obtain ⟨a,n,x,rfl,_⟩:=h
  rfl
 obtain ⟨a,ns,x,rfl,ha,hN,⟨hF,hG,hL⟩,q⟩:=h
 refine ⟨_,(zF (zS (i:=2) sc_all_forms.nd rfl (by first | exact Bc rfl | exact Ba rfl) (zU Gtab (hr.mono (by lia)) (zB (pv 0) zE)))
   (zF (zS (i:=3) sc_all_forms.nd rfl (by first | exact Bc rfl | exact Ba rfl) aAE)
   (zF (yH BD rfl (aHa (pv 2)) (zK (i:=4) sc_all_forms.nd rfl (by first | exact Bc rfl | exact Ba rfl)) (zI (yJ (aGX (aAM hr) (pv 3) (zU Gfb (hr.mono (by lia)) (zB (pv 2) (zB (pv 4) (zB (pv 1) zE))))))))
   (zI (zV (yT (N:=["order","found"]) rfl (yn [none,some 3] rfl (by decide +kernel) (by decide +kernel) rfl rfl) rfl (zr (zY (aDI rfl) rfl Bsorted yk (zB (pv 3) zE))) (fun _ _ _ _=>(zK (i:=0) (show (["order","found"]:List Str).Nodup by decide +kernel) rfl (by first | exact Bc rfl | exact Ba rfl))) (fun _ _ _ _=>aCq) (fun _ _ _ _=>(aHc (aAM hr) (pv 1) (pv 0) (fun _ _=>rfl))))))))),?_⟩
 try dsimp only [Cx.nox,kx1,kx2,kx3,kx4,kx5,kx6,kx7,kx8,kx9,kxa,kxb,kxc]
 have szl:=Bb
 refine ⟨_,rfl,a,ns,rfl,ha,hN,hF,fun pt kvs H1 s1 npt tb pe0=>?_⟩
 have pe:AH (Ent ns H1) kvs (chA ns.length):=pe0
 refine fun pf hpf hsf=>?_
 have sf:=Same.new (o:=DfO P w pf []) hpf
 have s1f:=s1.trans sf
 have npf:H pf=none:=zT s1 hpf
 obtain ⟨xs,gd,hkl,hsys,hkt,hnd⟩:=id (tb.same sf)
 have ntf:pt≠pf:=fun z=>by
  obtain ⟨_,g,_⟩:=tb
  rw [z,hpf] at g; cases g
 refine ⟨_,rfl,pt,xs,kvs,rfl,hsys,.inl ⟨gd,fun o=>?_⟩⟩
 obtain ⟨HA,eHA⟩:∃ HA,HA=upd (upd H1 pf (DfO P w pf [])) pt (.frz o (DbO P w pt xs)):=⟨_,rfl⟩
 have kA:∀ b u,b≠pt->(upd H1 pf (DfO P w pf [])) b=some u->HA b=some u:=fun b u nb e=>by rw [eHA,zH nb]; exact e
 have fz:HA pt=some (.frz o (DbO P w pt xs)):=by rw [eHA]; exact zC
 have sHA:Same H HA:=fun b u e=>kA b u (zD e npt) (s1f _ _ e)
 have hkA:KTB HA kvs xs:=hkt.keeps fun b ob ys e=>kA b _ (fun z=>by rw [z,gd] at e; cases e) e
 have peA:AH (Ent ns HA) kvs (chA ns.length):=Paired.mapP pe fun _ _ h=>h.kt fun b ys e=>kA b _ (fun z=>by have:=sf _ _ e; rw [z,gd] at this; cases this) (sf _ _ e)
 have fA:HA pf=some (DfO P w pf []):=kA _ _ ntf.symm zC
 have ntS:∀ c∈[pf],NT HA c:=fun c hc=>by rw [Ae.mp hc]; exact aAj (.inl fA)
 have nP:pt ∉ [pf]:=fun z=>ntf (Ae.mp z)
 have accok:∀ (cs:List (List Bool)),(∀ c∈cs,c∈chA ns.length)->∀ y∈cs.foldl (fun acc c=>updW acc (fbW (tabF ns) 4 c x)) [],y.ok 1000000:=fun cs h y hy=>by
  rcases aDR _ _ _ _ hy with h' | ⟨c,hc,h'⟩
  ·exact nomatch h'
  ·exact (aDQ hN 4 c x y (yO (h c hc)).1 h').1
 have tbK:∀ {H':Hp},Keep [pf] HA H'->H' pt=some (.frz o (DbO P w pt xs))/\KTB H' kvs xs:=fun {H'} k=>⟨k _ _ fz nP,hkA.keeps fun b ob ys e=>k _ _ e (fun z=>by rw [Ae.mp z,fA] at e; cases e)⟩
 refine aGP (d:=pt) (o:=o) (xs:=xs) (kvs:=kvs) (fun i σ H'=>∃ (z4:Option V) (kf:List (List Int×V)),σ=[some (.ref a),some (.int x),some (.ref pt),some (.ref pf),z4]/\Keep [pf] HA H'/\Tf P w H' pf kf/\AH (FE H') kf (((chA ns.length).take i).foldl (fun acc c=>updW acc (fbW (tabF ns) 4 c x)) []))
  ⟨none,[],rfl,fun b u e _=>by rw [eHA] at e; exact e,⟨[],by rw [eHA] at fA; exact fA,AL _,hsf,.nil,Dc⟩,by rw [CI]; exact .nil⟩ (fun i σ H' ⟨_,_,_,k,_⟩=>tbK k) ?_ ?_
 ·rintro i k v qk σ H2 hi kb ⟨z4,kf,rfl,k2,t2,p2⟩
  obtain ⟨c,hc,ec,q1,rfl,gq⟩:=zq peA hi
  have ec':k=c:=ec
  subst ec'
  have hcm:=Au hc
  obtain ⟨hl,hany⟩:=yO hcm
  obtain ⟨f2,b2⟩:=tbK k2
  have tx:TbX P w H2 pt kvs:=⟨xs,.inr ⟨o,f2⟩,hkl,hsys,b2,hnd⟩
  have pe2:AH (Ent ns H2) kvs (chA ns.length):=Paired.mapP peA fun _ _ h=>h.kt (qR k2 ntS)
  have gdk:=hG k hcm
  obtain ⟨xf,gf,_⟩:=id t2
  refine ⟨_,rfl,pf,kf,rfl,t2,_,rfl,_,rfl,_,rfl,pt,qk,ns,k,x,kvs,rfl,tx,pe2,kb.rd,hcm,hN,by have:=aAi k; have:=hN.1; lia,gdk,fun p3 kv3 H3 s3 n3 t3 e3=>?_⟩
  have okk:=gdk.1 x
  have lacc:kf.length < 64:=by
   rw [p2.length]
   have:=aJk (tabF ns) x (chA ns.length) i
   have:=hL x
   unfold allW allT at this
   lia
  have t23:=t2.same s3
  refine ⟨p3,kf,kv3,rfl,(fun z=>by rw [<- z,gf] at n3; cases n3),t23,t3,by rw [szl,e3.length]; have:=okk.1; lia,fun _=>by rw [aDS e3]; exact okk.2,fun H4 k4 t4=>?_⟩
  have k34:Keep [pf] H3 H4:=fun c u e n=>by rw [k4 c (fun z=>n (Ae.mpr z))]; exact e
  have nt3:∀ c∈[pf],NT H3 c:=fun c hc=>by
   obtain ⟨_,g,_⟩:=t23
   rw [Ae.mp hc]; exact aAj (.inl g)
  refine ⟨_,_,rfl,fun b u e nb=>k34 _ _ (s3 _ _ (k2 _ _ e nb)) nb,t4,?_⟩
  rw [zO hc,CZ]
  exact aBq (qR k34 nt3) (aJg (aBq (KT.same s3) p2) e3 (accok _ fun c hc=>CN hc) fun y hy=>(aDQ hN 4 k x y hl hy).1)
 ·rintro σ H2 ⟨z4,kf,rfl,k2,t2,p2⟩
  rw [peA.length,AE] at p2
  have p2':AH (FE H2) kf (allW ns x):=p2
  have sH2:Same H H2:=fun b u e=>k2 _ _ (sHA _ _ e) (fun z=>zD e npf (Ae.mp z))
  have hlen:kf.length < 64:=by rw [p2'.length]; exact hL x
  refine ⟨_,rfl,pf,kf,rfl,t2,hlen,fun kv hkv=>?_,fun p ys kv2 H3 s3 g3 perm pb ord=>?_⟩
  ·obtain ⟨j,hj⟩:=CM hkv
   obtain ⟨y,hy,hk,_⟩:=jX p2' hj
   rw [hk]
   obtain ⟨a',r',e',_⟩:=aBg (yX (aJf hN (Au hy)).1)
   unfold kW
   rw [e']; exact fun z=>by cases z
  obtain ⟨l2,pl2,pr2⟩:=aDH perm p2'
  refine ⟨p,rfl,⟨_,SqL.of g3⟩,fun D hD C sx fp=>?_⟩
  have nD:H D=none:=zT (sH2.trans s3) hD
  have yl:ys.length=kv2.length:=pb.length
  refine qE (K:=K) (a:=p) (xs:=ys) (tt:=fun _ H Q=>Q true H) (fun i zs σ H4=>∃ (o1:Option V),σ=[o1,some (.ref pf)]/\Same H3 H4/\zs=(kv2.map (·.2)).take i) (fun i zs σ H4 ⟨_,_,g,_⟩=>SqL.of (g _ _ g3)) ⟨none,rfl,Same.new hD,by rw [CI]⟩ ?_ ?_
  ·rintro i v zs σ H4 hi hzl ⟨o1,rfl,s4,rfl⟩ g4
   obtain ⟨kv,hkv,b,rfl,rd⟩:=jX pb hi
   have hil:=(Aq.mp hkv).1
   have hm:=Au hkv
   have s34:=s3.trans s4
   have lp:=perm.length_eq
   refine ⟨_,rfl,_,rfl,pf,b,kf,kv.1,kv.2,rfl,rfl,t2.same s34,jG s34 rd,aGx (aM3 t2) (perm.mem_iff.mp hm),_,g4,by rw [szl]; lia,_,by rw [Ai]; exact CJ hzl,⟨_,rfl,zf s4 hD,?_⟩,zC⟩
   rw [zO (show (kv2.map (·.2))[i]?=some kv.2 by rw [AO,hkv]; rfl)]
  ·rintro zs σ H4 ⟨o1,rfl,s4,rfl⟩ g4
   have e1:(kv2.map (·.2)).take ys.length=kv2.map (·.2):=by rw [yl,<- Ah (f:=fun (x:List Int×V)=>x.2),AE]
   rw [e1] at g4
   have s34:=s3.trans s4
   refine q D _ l2 H4 (sH2.trans s34) nD g4 pl2 ?_ ?_
   ·have:∀ {k:List (List Int×V)} {l:List Way},AH (FE H2) k l->AH (fun v y=>Dat H4 (fP y) v) (k.map (·.2)) l:=by
     intro k l h
     induction h with
     | nil=>exact .nil
     | cons h t ih=>exact .cons (Dat.kt (KT.same s34) _ h.2) ih
    exact this pr2
   ·have:∀ {k:List (List Int×V)} {l:List Way},AH (FE H2) k l->k.Pairwise (fun a b=>lx b.1 a.1=false)->l.Pairwise (fun a b=>lx (kW b) (kW a)=false):=by
     intro k l h
     induction h with
     | nil=>intro _; exact BJ
     | @cons a' b' k' l' h t ih =>
      intro o
      obtain ⟨o1,o2⟩:=AG.mp o
      refine AG.mpr ⟨fun y hy=>?_,ih o2⟩
      obtain ⟨j,hj⟩:=CM hy
      obtain ⟨x',hx',r'⟩:=aDF t hj
      have:=o1 x' (Au hx')
      rw [r'.1,h.1] at this
      exact this
    exact this pr2 ord
noncomputable def cntW (x:Int) (r:List Int):Int:=((allW r x).length:Int)
noncomputable def aJm:Sp:=fun vs H Q _=>∃ (a:Addr) (ns:List Int) (x:Int),vs=[.ref a,.int x]/\H a=some (.tup (ns.map V.int))/\Nums ns/\GdN ns/\∀ (H':Hp),Same H H'->Q (.int (cntW x ns)) H'
noncomputable abbrev zy:Stmt:=top 30
theorem aBr:FnScope ["numbers","wish"] ["numbers","wish"] (zG zy):=⟨rfl,rfl,rfl,by decide +kernel,rfl,by decide +kernel,by decide +kernel⟩
theorem aLD {f:Addr} {fd:Bu} (F:Fun K "many_forms" "many_forms" zy f fd) (B:Blt mg) (Gaf:Def P w K mg base CX0 12 "all_forms" aJl):FnOk P w K mg base CX0 13 f fd ["numbers","wish"] aJm:=by
 refine F.ok (k:=12) aBr (fun vs H Q E h=>?_) (fun cdv A outer s H vs Q E hr h=>?_)
 ·obtain ⟨a,n,x,rfl,_⟩:=h
  rfl
 obtain ⟨a,ns,x,rfl,ha,hN,hG,q⟩:=h
 refine ⟨_,(zI (zV (zY zu rfl B.len aAv (zB (zU Gaf (hr.mono (by lia)) (zB (pv 0) (zB (pv 1) zE))) zE)))),?_⟩
 try dsimp only [Cx.nox,kx1,kx2,kx3,kx4,kx5,kx6,kx7,kx8,kx9,kxa,kxb,kxc]
 refine ⟨_,rfl,_,rfl,a,ns,x,rfl,ha,hN,hG,fun p ws l H1 s1 np g1 pl pr _=>?_⟩
 refine ⟨p,_,rfl,.inl (SqL.of g1),?_⟩
 have:=q H1 s1
 unfold cntW at this
 rw [pr.length,pl.length_eq]
 exact this
noncomputable def insI (x:Int):List Int->List Int
 | []=>[x]
 | y :: r=>if x < y then x :: y :: r else if x=y then y :: r else y :: insI x r
theorem mem_insI {x m:Int}:∀ {l:List Int},m∈insI x l↔m=x\/m∈l
 | []=>by simp [insI]
 | y :: r=>by
  unfold insI
  split
  ·simp
  ·split
   ·rename_i _ e; subst e; simp
   ·simp only [Aj]; rw [mem_insI (l:=r)]
    constructor
    ·rintro (h | h | h)
     ·exact .inr (.inl h)
     ·exact .inl h
     ·exact .inr (.inr h)
    ·rintro (h | h | h)
     ·exact .inr (.inl h)
     ·exact .inl h
     ·exact .inr (.inr h)
theorem aEE {x:Int}:∀ {l:List Int},l.Pairwise (· < ·)->(insI x l).Pairwise (· < ·)
 | [],_=>DG _ _
 | y :: r,h=>by
  obtain ⟨h1,h2⟩:=AG.mp h
  unfold insI
  split
  ·rename_i c
   refine AG.mpr ⟨fun z hz=>?_,h⟩
   rcases Aj.mp hz with e | hz
   ·rw [e]; exact c
   ·exact Nr c (h1 z hz)
  ·split
   ·exact h
   ·refine AG.mpr ⟨fun z hz=>?_,aEE h2⟩
    rcases mem_insI.mp hz with e | hz
    ·rw [e]; lia
    ·exact h1 z hz
theorem aJn {m:Int}:∀ (l acc:List Int),acc.Pairwise (· < ·)->(l.foldl (fun acc x=>insI x acc) acc).Pairwise (· < ·)/\(m∈l.foldl (fun acc x=>insI x acc) acc↔m∈acc\/m∈l)
 | [],acc,h=>⟨h,by simp⟩
 | x :: r,acc,h=>by
  obtain ⟨a,b⟩:=aJn (m:=m) r (insI x acc) (aEE h)
  refine ⟨a,?_⟩
  rw [Dw,b,mem_insI,Aj]
  constructor
  ·rintro ((h | h) | h)
   ·exact .inr (.inl h)
   ·exact .inl h
   ·exact .inr (.inr h)
  ·rintro (h | h | h)
   ·exact .inl (.inr h)
   ·exact .inl (.inl h)
   ·exact .inr h
noncomputable def rowC (ns:List Int):Nat->List Bool->List Int
 | 0,_=>[]
 | n + 1,c=>match zJ ns c with
  | []=>[]
  | [m]=>[m]
  | _ :: _ :: _=>((zX c).flatMap fun p=>(dbL (rowC ns n p.1) (rowC ns n p.2)).map fun d=>d.2.2.2).foldl (fun acc x=>insI x acc) []
theorem aAl {ns:List Int} (hN:Nums ns):∀ (n:Nat) (c:List Bool),c.length=ns.length->c.any id=true->c.count true<=n->rowC ns n c=tabF ns c
 | 0,c,hl,ha,hc=>by
  have:=(qH c).mp ha
  lia
 | n + 1,c,hl,ha,hc=>by
  have e:=zw (ns:=ns) (c:=c) hl.symm
  have l4:(zJ ns c).length<=4:=Ay (zj ns _) hN.1
  have n0:=(qH c).mp ha
  unfold rowC tabF
  match hz:zJ ns c with
  | []=>rw [hz] at e; simp at e; lia
  | [m] =>
   have hm:=hN.2 m (yc (c:=c) (by rw [hz]; exact Ae.mpr rfl))
   exact (aD5 hm.1).symm
  | a :: b :: r =>
   have h1:(zJ ns c).length≠1:=by rw [hz]; simp
   have ro:=yY l4
   rw [hz] at ro
   refine RowOf.one (Pd:=MetL (a :: b :: r)) ⟨(aJn (m:=0) _ [] BJ).1,fun m=>?_⟩ ro
   rw [(aJn _ [] BJ).2]
   have ih:∀ p∈zX c,rowC ns n p.1=tabF ns p.1/\rowC ns n p.2=tabF ns p.2:=fun p hp=>by
    obtain ⟨cc,c1,c2,l1,l2,a1,a2⟩:=jI hp
    exact ⟨aAl hN n p.1 (l1.trans hl) a1 (by lia),aAl hN n p.2 (l2.trans hl) a2 (by lia)⟩
   constructor
   ·rintro (h | h)
    ·exact nomatch h
    ·obtain ⟨p,hp,h⟩:=AS.mp h
     obtain ⟨d,hd,rfl⟩:=Bk.mp h
     rw [(ih p hp).1,(ih p hp).2] at hd
     have:=jZ hN hl.symm h1 hp hd
     rw [hz] at this
     exact this
   ·intro h
    rw [<- hz] at h
    obtain ⟨p,hp,d,hd,rfl⟩:=aBm hN hl.symm h1 h
    refine .inr (AS.mpr ⟨p,hp,Bk.mpr ⟨d,?_,rfl⟩⟩)
    rw [(ih p hp).1,(ih p hp).2]
    exact hd
theorem aA0 {α β:Type} {f g:β->α->β}:∀ {l:List α} {b:β},(∀ b,∀ x∈l,f b x=g b x)->l.foldl f b=l.foldl g b
 | [],b,_=>rfl
 | x :: r,b,h=>by
  rw [Dw,Dw,h b x (Am ..)]
  exact aA0 fun b y hy=>h b y (Al _ hy)
theorem aAm {α β:Type} {f g:α->List β}:∀ {l:List α},(∀ x∈l,f x=g x)->l.flatMap f=l.flatMap g
 | [],_=>rfl
 | x :: r,h=>by
  rw [Bm,Bm,h x (Am ..),aAm fun y hy=>h y (Al _ hy)]
theorem aA1 {t t':List Bool->List Int} {L:Nat} (h:∀ c,c.length=L->c.any id=true->t c=t' c):∀ (n:Nat) (c:List Bool) (x:Int),c.length=L->c.any id=true->fbW t n c x=fbW t' n c x
 | 0,c,x,_,_=>rfl
 | n + 1,c,x,hl,ha=>by
  by_cases hx:x∈t c
  ·have hx':x∈t' c:=by rw [<- h c hl ha]; exact hx
   by_cases h1:c.count true=1
   ·rw [aAh hx h1,aAh hx' h1]
   ·rw [je hx h1,je hx' h1]
    have e1:(zX c).flatMap (cutP t x)=(zX c).flatMap (cutP t' x):=aAm fun p hp=>by
     obtain ⟨_,_,_,l1,l2,a1,a2⟩:=jI hp
     unfold cutP
     rw [h p.1 (l1.trans hl) a1,h p.2 (l2.trans hl) a2]
    rw [e1]
    refine aA0 fun b q hq=>?_
    obtain ⟨hp,_,_⟩:=aGp hq
    obtain ⟨_,_,_,l1,l2,a1,a2⟩:=jI hp
    unfold stF
    rw [aA1 h n q.2.1 _ (l1.trans hl) a1,aA1 h n q.2.2 _ (l2.trans hl) a2]
  ·have hx':¬ x∈t' c:=by rw [<- h c hl ha]; exact hx
   rw [qt hx,qt hx']
noncomputable def aHt (x:Int):List Int->Bool
 | []=>true
 | y :: r=>!(decide (x=y)) && aHt x r
noncomputable def ndI:List Int->Bool
 | []=>true
 | x :: r=>aHt x r && ndI r
theorem aEF {x:Int}:∀ {l:List Int},aHt x l=true->x ∉ l
 | [],_=>fun h=>nomatch h
 | y :: r,h=>by
  unfold aHt at h
  rw [AD] at h
  intro hm
  rcases Aj.mp hm with e | hm
  ·rw [decide_eq_true e] at h; exact absurd h.1 (by decide)
  ·exact aEF h.2 hm
theorem aIa:∀ {l:List Int},ndI l=true->l.Nodup
 | [],_=>Dc
 | x :: r,h=>by
  unfold ndI at h
  rw [AD] at h
  exact Dv.mpr ⟨aEF h.1,aIa h.2⟩
noncomputable def okB1 (l:List Way):Bool:=GY l.length 64 && ndI (l.map fun x=>hsh (kW x))
theorem aGy {l:List Way} (h:okB1 l=true):Okl l:=by
 unfold okB1 at h
 rw [AD] at h
 refine ⟨?_,aIa h.2⟩
 have:l.length<=63:=by simpa [GY] using h.1
 lia
noncomputable def chkT (t:List Bool->List Int):Nat->List Bool->Bool
 | 0,_=>true
 | n + 1,c=>((t c).all fun x=>okB1 (fbW t (n + 1) c x)) && (zX c).all fun p=>chkT t n p.1 && chkT t n p.2 && (dbL (t p.1) (t p.2)).all fun d=>okB1 (jbW d.1 (fbW t n p.1 d.2.1) (fbW t n p.2 d.2.2.1))
theorem aDV {ns:List Int} {t:List Bool->List Int} (h:∀ c,c.length=ns.length->c.any id=true->t c=tabF ns c):∀ (n:Nat) (c:List Bool),c.length=ns.length->c.any id=true->chkT t n c=true->GdT (tabF ns) n c
 | 0,c,_,_,_=>DJ
 | n + 1,c,hl,ha,hc=>by
  unfold chkT at hc
  rw [AD,AK,AK] at hc
  refine ⟨fun x=>?_,fun p hp=>?_⟩
  ·rw [<- aA1 h (n + 1) c x hl ha]
   by_cases hx:x∈t c
   ·exact aGy (hc.1 x hx)
   ·rw [qt hx]; exact ⟨by decide,Dc⟩
  ·obtain ⟨_,_,_,l1,l2,a1,a2⟩:=jI hp
   have hp':=hc.2 p hp
   rw [AD,AD,AK] at hp'
   refine ⟨aDV h n p.1 (l1.trans hl) a1 hp'.1.1,aDV h n p.2 (l2.trans hl) a2 hp'.1.2,fun d hd=>?_⟩
   rw [<- h p.1 (l1.trans hl) a1,<- h p.2 (l2.trans hl) a2] at hd
   rw [<- aA1 h n p.1 _ (l1.trans hl) a1,<- aA1 h n p.2 _ (l2.trans hl) a2]
   exact aGy (hp'.2 d hd)
noncomputable def aJo (ns:List Int):Bool:=(chA ns.length).all fun c=>GY (rowC ns 4 c).length 64
noncomputable def chkN (ns:List Int):Bool:=aJo ns && (chA ns.length).all (fun c=>chkT (rowC ns 4) 4 c) && (chA ns.length).all fun c=>(rowC ns 4 c).all fun x=>GY (allT (rowC ns 4) ns.length x).length 64
theorem aEG {ns:List Int} (hN:Nums ns) (hf:aJo ns=true):Few1 ns:=fun c hl=>by
 by_cases ha:c.any id=true
 ·have hm:c∈chA ns.length:=Bi.mpr ⟨ju _ _ hl,ha⟩
  have:=AK.mp hf c hm
  have h1:(rowC ns 4 c).length<=63:=by simpa [GY] using this
  have e:rowC ns 4 c=rowF (zJ ns c):=aAl hN 4 c hl ha (by have:=aAi c; have:=hN.1; lia)
  rw [<- e]; lia
 ·have e:zJ ns c=[]:=HR fun z=>ha ((yo hl.symm).mp z)
  rw [e]
  have:rowF []=[]:=(yY (zs:=[]) (by simp)).one ⟨BJ,fun m=>⟨fun h=>(nomatch h),fun h=>absurd rfl h.ne⟩⟩
  rw [this]; decide
theorem aGz {ns:List Int} (hN:Nums ns) (h:chkN ns=true):GdN ns:=by
 have hN4:=hN.1
 have ht:∀ c,c.length=ns.length->c.any id=true->rowC ns 4 c=tabF ns c:=fun c hl ha=>aAl hN 4 c hl ha (by have:=aAi c; lia)
 unfold chkN at h
 rw [Bool.and_assoc,AD] at h
 obtain ⟨hf,h⟩:=h
 rw [AD,AK,AK] at h
 refine ⟨aEG hN hf,fun c hc=>aDV ht 4 c (yO hc).1 (yO hc).2 (h.1 c hc),fun x=>?_⟩
 have e:allW ns x=allT (rowC ns 4) ns.length x:=by
  unfold allW allT
  exact (aA0 fun b c hc=>by rw [aA1 ht 4 c x (yO hc).1 (yO hc).2]).symm
 by_cases hx:0 < (allW ns x).length
 ·obtain ⟨c,hc,hm⟩:=(aED hN x).mp hx
  have hm':x∈rowC ns 4 c:=by rw [ht c (yO hc).1 (yO hc).2]; exact hm
  have:=AK.mp (h.2 c hc) x hm'
  rw [e]
  have:(allT (rowC ns 4) ns.length x).length<=63:=by simpa [GY] using this
  lia
 ·lia
noncomputable def aLE (K:Af):Sp:=fun vs H Q _=>∃ (a:Addr) (ns:List Int) (k:Int),vs=[.ref a,.int k]/\SqL K H a (ns.map V.int)/\ns.length<=63/\0<=k/\k < 1000/\∀ (r:Int) (H':Hp),0<=r->r < 1000000->Same H H'->Q (.int r) H'
noncomputable abbrev yA:Stmt:=top 38
theorem sc_law_number:FnScope ["script","k","cells","size","cell","turn","rest","step","seed"] ["script","k"] (zG yA):=⟨rfl,rfl,rfl,by decide +kernel,rfl,by decide +kernel,by decide +kernel⟩
theorem aLF {f:Addr} {fd:Bu} (F:Fun K "_law_number" "_law_number" yA f fd) (B:Blt mg) (Bmax:mg "max"=none) (Bmin:mg "min"=none) (Blist:mg "list"=none):FnOk P w K mg base CX0 1 f fd ["script","k"] (aLE K):=by
 refine F.ok sc_law_number (fun vs H Q E h=>?_) (fun cdv A outer s H vs Q E hr h=>?_)
 ·obtain ⟨a,ns,k,rfl,_⟩:=h
  rfl
 obtain ⟨a,ns,k,rfl,hS,hl,k0,k1,q⟩:=h
 refine ⟨_,(zF (zS (i:=2) sc_law_number.nd rfl (by first | exact Bc rfl | exact Ba rfl) (zW aFB (yj aA3 rfl Blist aFG (zB (pv 0) zE)) (yV (zB zM zE))))
   (zF (zS (i:=3) sc_law_number.nd rfl (by first | exact Bc rfl | exact Ba rfl) (zY (aF2 rfl) rfl Bmax aFf (zB zM (zB (zY zu rfl B.len aAv (zB (pv 0) zE)) zE))))
   (zF (zS (i:=4) sc_law_number.nd rfl (by first | exact Bc rfl | exact Ba rfl) (jk jl (pv 2) (zW qC (pv 1) (pv 3)) (fun _ _=>rfl)))
   (zF (zS (i:=5) sc_law_number.nd rfl (by first | exact Bc rfl | exact Ba rfl) (zW aCm (pv 1) (pv 3)))
   (zF (zS (i:=6) sc_law_number.nd rfl (by first | exact Bc rfl | exact Ba rfl) (pv 4))
   (zF (yH BD rfl (jJ rfl B.range (zB (zY (aF3 rfl) rfl Bmin aKT (zB (pv 5) (zB zM zE))) zE)) (zK (i:=7) sc_law_number.nd rfl (by first | exact Bc rfl | exact Ba rfl)) (zI (zS (i:=6) sc_law_number.nd rfl (by first | exact Bc rfl | exact Ba rfl) (zW aDe (pv 6) zM))))
   (zF (qw (PW.pt (aEu (zc aK8 (pv 4) (zW aK5 zM zM) (zn _)) (aEu (zc aLW (pv 5) zM (zn _)) (aEt (zc aK7 (pv 6) zM (zn _)))))) (zI (zV (zW qC (pv 6) zM))) yC)
   (zF (zS (i:=8) sc_law_number.nd rfl (by first | exact Bc rfl | exact Ba rfl) (zW qC (zW aAJ (zW qB (zW qB (zW qB (zW qC (pv 4) zM) zM) (zW aAJ zM (pv 5))) (zW aAJ zM (pv 1))) zM) zM))
   (zF (zS (i:=8) sc_law_number.nd rfl (by first | exact Bc rfl | exact Ba rfl) (zW qC (zW qB (zW qB (zW aAJ (pv 8) (pv 8)) (zW aAJ zM (pv 5))) (zW aAJ zM (pv 1))) zM))
   (zI (zV (zW qC (zW aCm (zW qC (zW aAJ (pv 8) zM) zM) zM) zM)))))))))))),?_⟩
 try dsimp only [Cx.nox,kx1,kx2,kx3,kx4,kx5,kx6,kx7,kx8,kx9,kxa,kxb,kxc]
 have szl:=Bb
 refine ⟨_,rfl,a,_,rfl,.inl hS,fun p1 hp1=>⟨(by show 1<=sizeLine; decide),fun p2 hp2=>⟨p1,p2,_,_,rfl,rfl,Same.new hp2 _ _ zC,zC,?_,fun p3 hp3=>?_⟩⟩⟩
 ·rw [Ah,szl]; show ns.length + 1<=_; lia
 have s3:Same H (upd (upd (upd H p1 (.lst (ns.map V.int))) p2 (.lst [.int 0])) p3 (.lst (ns.map V.int++[.int 0]))):=(Same.new hp1).trans ((Same.new hp2).trans (Same.new hp3))
 have g3:(upd (upd (upd H p1 (.lst (ns.map V.int))) p2 (.lst [.int 0])) p3 (.lst (ns.map V.int++[.int 0]))) p3=some (.lst ((ns++[0]).map V.int)):=by rw [zC,Bh]; rfl
 generalize upd (upd (upd H p1 (.lst (ns.map V.int))) p2 (.lst [.int 0])) p3 (.lst (ns.map V.int++[.int 0]))=H1 at s3 g3 ⊢
 have hS1:SqL K H1 a (ns.map V.int):=jc s3 hS
 refine ⟨_,rfl,a,_,rfl,.inl hS1,1,_,rfl,?_⟩
 rw [Ah]
 obtain ⟨m,hm,m1,m2,m3⟩:∃ m:Int,(if (ns.length:Int) > 1 then (ns.length:Int) else 1)=m/\1<=m/\m<=63/\m<=(ns.length:Int) + 1:=⟨_,rfl,by split <;> lia,by split <;> lia,by split <;> lia⟩
 rw [hm]
 have i0:0<=k % m:=Dx _ (by lia)
 have i1:k % m < m:=CP _ (by lia)
 obtain ⟨v,hv,hmem⟩:=aBa (xs:=(ns++[0]).map V.int) i0 (by rw [Ah,Ai]; show k % m < ((ns.length + 1:Nat):Int); lia)
 obtain ⟨cell,_,rfl⟩:=Bk.mp hmem
 refine ⟨_,rfl,_,rfl,_,rfl,_,_,rfl,rfl,(by show (0:Int) < m; lia),p3,_,_,_,rfl,rfl,SqL.of g3,hv,?_⟩
 have d0:0<=k / m:=Mu k0 (by lia)
 have d1:k / m<=k:=LV m k0
 refine ⟨_,rfl,_,rfl,_,_,rfl,rfl,⟨by lia,by lia⟩,?_⟩
 refine ⟨_,rfl,?_⟩
 dsimp only [aBC]
 refine aBl (fun σ' H'=>∃ (r:Int) (z:Option V),σ'=[some (.ref a),some (.int k),some (.ref p3),some (.int m),some (.int cell),some (.int (k / m)),some (.int r),z,none]/\H'=H1) ?_ ?_
 ·rintro σ' H' ⟨r,z,rfl,rfl⟩
  refine aBl (fun σ2 H2=>σ2=[some (.ref a),some (.int k),some (.ref p3),some (.int m),some (.int cell),some (.int (k / m)),some (.int r),z,none]/\H2=H') ?_ ?_
  ·rintro σ2 H2 ⟨rfl,rfl⟩
   have e1:0<=cell % 2147483629:=Dx _ (by decide)
   have e2:cell % 2147483629 < 2147483629:=CP _ (by decide)
   refine ⟨_,rfl,_,_,rfl,rfl,(by show (0:Int) < _; decide),_,_,rfl,rfl,_,rfl,_,_,rfl,rfl,.inl ⟨by decide,by decide⟩,_,_,rfl,rfl,_,rfl,_,_,rfl,rfl,.inl ⟨by decide,by decide⟩,_,_,rfl,rfl,_,_,rfl,rfl,.inr ⟨by decide,by decide⟩,_,_,rfl,rfl,(by show (0:Int) < _; decide),?_⟩
   generalize hy:(cell % 2147483629 + 977 + 104729 * (k / m) + 15485863 * k) * 48271 % 2147483647=y
   have y0:0<=y:=by rw [<- hy]; exact Dx _ (by decide)
   have y1:y < 2147483647:=by rw [<- hy]; exact CP _ (by decide)
   refine ⟨_,rfl,_,rfl,_,_,rfl,rfl,.inl ⟨by lia,by lia⟩,_,rfl,_,_,rfl,rfl,.inl ⟨by decide,by decide⟩,_,_,rfl,rfl,_,rfl,_,_,rfl,rfl,.inl ⟨by decide,by decide⟩,_,_,rfl,rfl,_,_,rfl,rfl,(by show (0:Int) < _; decide),?_⟩
   refine ⟨_,rfl,_,_,rfl,rfl,.inr ⟨by decide,by decide⟩,_,_,rfl,rfl,(by show (0:Int) < _; decide),_,_,rfl,rfl,⟨by decide,by decide⟩,_,_,rfl,rfl,(by show (0:Int) < _; decide),?_⟩
   exact q _ _ (Dx _ (by decide)) (CP _ (by decide)) s3
  ·intro X' hX
   refine ⟨_,rfl,_,_,rfl,rfl,⟨by decide,by decide,by decide⟩,_,_,rfl,rfl,_,rfl,?_⟩
   refine ite2 (fun _=>?_) (fun _=>?_)
   ·refine ⟨_,rfl,_,_,rfl,rfl,_,rfl,?_⟩
    refine ite2 (fun _=>?_) (fun _=>?_)
    ·refine ⟨_,rfl,_,_,rfl,rfl,_,rfl,?_⟩
     refine ite2 (fun _=>?_) (fun _=>?_)
     ·exact ⟨_,rfl,_,_,rfl,rfl,(by show (0:Int) < _; decide),q _ _ (Dx _ (by decide)) (CP _ (by decide)) s3⟩
     ·exact hX _ _ ⟨rfl,rfl⟩
    ·exact iteF (hX _ _ ⟨rfl,rfl⟩)
   ·exact iteF (hX _ _ ⟨rfl,rfl⟩)
 ·intro X' hX
  refine ⟨_,rfl,_,_,rfl,_,rfl,(by split <;> lia),(by split <;> lia),jK (fun i σ H'=>∃ (r:Int) (z:Option V),σ=[some (.ref a),some (.int k),some (.ref p3),some (.int m),some (.int cell),some (.int (k / m)),some (.int r),z,none]/\H'=H1) ⟨cell,none,rfl,rfl⟩ ?_ ?_⟩
  ·rintro i σ H' _ ⟨c,z,rfl,rfl⟩
   exact ⟨_,rfl,_,_,rfl,rfl,⟨by decide,by decide⟩,_,_,rfl,rfl⟩
  ·rintro σ H' h
   exact hX _ _ h
noncomputable def AllP (ns:List Int) (m:Int):Prop:=∃ c,c.length=ns.length/\MetL (zJ ns c) m
theorem aIb {α β:Type} (f:α->List β) (g:α->Nat):∀ l:List α,(∀ x∈l,(f x).length<=g x)->(l.flatMap f).length<=(l.map g).sum
 | [],_=>Ak _
 | x :: l,h=>by
  rw [Bm,Ai,AA,Ng]
  exact Nat.add_le_add (h x (by simp)) (aIb f g l fun y hy=>h y (by simp [hy]))
theorem aJp:∀ n,n<=4->((chL n).map fun c=>bnd (c.count true)).sum<=3900:=by
 intro n h
 have:n=0\/n=1\/n=2\/n=3\/n=4:=by lia
 rcases this with rfl | rfl | rfl | rfl | rfl <;> decide +kernel
theorem aJq {ns ks:List Int} (hN:Nums ns) (nd:ks.Nodup) (h:∀ k∈ks,AllP ns k):ks.length<=3900:=by
 have h1:ks.length<=((chL ns.length).flatMap fun c=>jA 4 (zJ ns c)).length:=qf nd fun x hx=>by
  obtain ⟨c,hc,hm⟩:=h x hx
  exact AS.mpr ⟨c,ju _ c hc,aBX hm 4 (Ay (zj ns c) hN.1)⟩
 have h2:=aIb (fun c=>jA 4 (zJ ns c)) (fun c=>bnd (c.count true)) (chL ns.length) fun c hc=>by
  have:=aDx (zs:=zJ ns c) (Ay (zj ns c) hN.1)
  rw [zw (by rw [jt _ c hc])] at this
  exact this
 exact Ay h1 (Ay h2 (aJp _ hN.1))
theorem aAn {ns:List Int} {m:Int} (hN:Nums ns):AllP ns m↔∃ c∈(chL ns.length).filter (·.any id),m∈rowF (zJ ns c):=by
 have l4:∀ c,(zJ ns c).length<=4:=fun c=>Ay (zj ns c) hN.1
 constructor
 ·rintro ⟨c,hc,hm⟩
  exact ⟨c,Bi.mpr ⟨ju _ c hc,(yo hc.symm).mp hm.ne⟩,((yY (l4 c)).2 m).mpr hm⟩
 ·rintro ⟨c,hc,hm⟩
  exact ⟨c,jt _ c (Bi.mp hc).1,((yY (l4 c)).2 m).mp hm⟩
theorem aHu {H H':Hp} {p:Addr} {o:HO} (k:Keep [p] H H'):Keep [p] H (upd H' p o):=fun b u e n=>by
 rw [zH (fun z=>n (by rw [z]; simp))]; exact k b u e n
noncomputable def Few2 (ns:List Int):Prop:=Few1 ns/\∃ L:List Int,L.length < 64/\∀ m,AllP ns m->m∈L
noncomputable def aLG:Sp:=fun vs H Q _=>∃ (a:Addr) (ns:List Int),vs=[.ref a]/\H a=some (.tup (ns.map V.int))/\Nums ns/\Few2 ns/\∀ (p:Addr) (r:List Int) (H':Hp),Same H H'->RowOf (AllP ns) r->H' p=some (.tup (r.map V.int))->Q (.ref p) H'
noncomputable abbrev yB:Stmt:=top 25
theorem aBs:FnScope ["numbers"] ["numbers"] (zG yB):=⟨rfl,rfl,rfl,by decide +kernel,rfl,by decide +kernel,by decide +kernel⟩
theorem aLH {f:Addr} {fd:Bu} (F:Fun K "met_at_all" "met_at_all" yB f fd) (B:Blt mg) (Bsorted:mg "sorted"=none) (Gtab:Def P w K mg base CX0 10 "table_of" (aJY P w)):FnOk P w K mg base CX0 11 f fd ["numbers"] aLG:=by
 refine F.ok (k:=10) aBs (fun vs H Q E h=>?_) (fun cdv A outer s H vs Q E hr h=>?_)
 ·obtain ⟨a,ns,rfl,_⟩:=h
  rfl
 obtain ⟨a,ns,rfl,ha,hN,⟨hF,L,hL,hLm⟩,q⟩:=h
 refine ⟨_,(zI (zV (yj yD rfl B.tuple qO (zB (zY (aAX rfl) rfl Bsorted yk (zB (aHV (N:=["row","worth"]) rfl (yn [none,none] rfl (by decide +kernel) (by decide +kernel) rfl rfl) rfl (aEg (zU Gtab (hr.mono (by lia)) (zB (pv 0) zE))) (fun _ _ _ _=>(zK (i:=0) (show (["row","worth"]:List Str).Nodup by decide +kernel) rfl (by first | exact Bc rfl | exact Ba rfl))) (fun _ _ _ _=>(aAH (pv 0))) (fun _ _ _ _=>(zK (i:=1) (show (["row","worth"]:List Str).Nodup by decide +kernel) rfl (by first | exact Bc rfl | exact Ba rfl))) (fun _ _ _ _=>(pv 1))) zE)) zE)))),?_⟩
 try dsimp only [Cx.nox,kx1,kx2,kx3,kx4,kx5,kx6,kx7,kx8,kx9,kxa,kxb,kxc]
 have szl:=Bb
 refine ⟨_,rfl,a,ns,rfl,ha,hN,hF,fun pt kvs H1 s1 npt tb pe=>?_⟩
 obtain ⟨xs,gd,hkl,hsys,hkt,hnd⟩:=id tb
 refine ⟨pt,xs,kvs,rfl,hsys,.inl ⟨gd,fun o D hD C sx fp=>?_⟩⟩
 obtain ⟨H2,eH2⟩:∃ H2,H2=upd H1 pt (.frz o (DbO P w pt xs)):=⟨_,rfl⟩
 have k2:∀ b u,b≠pt->H1 b=some u->H2 b=some u:=fun b u nb e=>by rw [eH2,zH nb]; exact e
 have fz:H2 pt=some (.frz o (DbO P w pt xs)):=by rw [eH2]; exact zC
 replace hD:H2 D=none:=by rw [eH2]; exact hD
 have ntp:∀ {b:Addr} {ys:List V},H1 b=some (.tup ys)->b≠pt:=fun {b ys} e z=>by rw [z,gd] at e; cases e
 have kt2:KT H1 H2:=fun b ys e=>k2 b _ (ntp e) e
 have sH2:Same H H2:=fun b u e=>k2 b u (zD e npt) (s1 _ _ e)
 have nDH:H D=none:=zT sH2 hD
 refine aDC (d:=pt) (o:=o) (xs:=xs) (kvs:=kvs) (fun i σ H3=>∃ (o1 o2:Option V) (ks:List Int),σ=[o1,o2]/\Keep [D] H2 H3/\H3 D=some (SeO P w D ks)/\ks.Nodup/\∀ m,m∈ks↔∃ c∈((chL ns.length).filter (·.any id)).take i,m∈rowF (zJ ns c))
  ⟨none,none,[],rfl,fun b u e n=>by rw [eH2] at e; rw [zH (fun z=>n (by rw [z]; simp))]; exact e,zC,Dc,fun m=>by simp⟩ (fun i σ H3 ⟨_,_,_,_,k,_⟩=>⟨k _ _ fz (fun z=>by rw [Ae.mp z,hD] at fz; cases fz),hkt.keeps fun b ob ys e=>k _ _ (k2 b _ (fun z=>by rw [z,gd] at e; cases e) e) (fun z=>by have:=k2 b _ (fun z=>by rw [z,gd] at e; cases e) e; rw [Ae.mp z,hD] at this; cases this)⟩) ?_ ?_
 ·rintro i k x σ H3 hi ⟨o1,o2,ks,rfl,k3,g3,nd,hm⟩
  obtain ⟨c,hc,ec,q1,rfl,gq⟩:=zq pe hi
  have gq2:H2 q1=some (.tup ((rowF (zJ ns c)).map V.int)):=kt2 _ _ gq
  have nqD:q1 ∉ [D]:=fun z=>by rw [Ae.mp z,hD] at gq2; cases gq2
  have hcm:=Au hc
  refine ⟨_,rfl,q1,rfl,⟨_,SqT.of (k3 _ _ gq2 nqD)⟩,aJB (K:=K) (a:=q1) (zs:=(rowF (zJ ns c)).map V.int) (fun j σ H4=>∃ (o2:Option V) (ks:List Int),σ=[some (.ref q1),o2]/\Keep [D] H2 H4/\H4 D=some (SeO P w D ks)/\ks.Nodup/\∀ m,m∈ks↔((∃ c∈((chL ns.length).filter (·.any id)).take i,m∈rowF (zJ ns c))\/m∈(rowF (zJ ns c)).take j))
   ⟨o2,ks,rfl,k3,g3,nd,fun m=>by rw [hm]; simp⟩ (fun j σ H4 ⟨_,_,_,k,_⟩=>SqT.of (k _ _ gq2 nqD)) ?_ ?_⟩
  ·rintro j y σ H4 hj ⟨o2,ks4,rfl,k4,g4,nd4,hm4⟩
   obtain ⟨m0,hm0,rfl⟩:=jH hj
   have hall:∀ m∈ks4,AllP ns m:=fun m h=>by
    rw [aAn hN]
    rcases (hm4 m).mp h with ⟨c',hc',h'⟩ | h'
    ·exact ⟨c',CN hc',h'⟩
    ·exact ⟨c,hcm,CN h'⟩
   have hlen:=aJq hN nd4 hall
   refine ⟨_,rfl,ks4,m0,g4,rfl,by lia,some (.int m0),addK ks4 m0,rfl,aHu k4,zC,jr nd4,fun m=>?_⟩
   rw [aBW,hm4,zO hm0]
   simp only [Bj,Ae]
   exact or_assoc
  ·rintro σ H4 ⟨o2,ks4,rfl,k4,g4,nd4,hm4⟩
   rw [Ah,AE] at hm4
   refine ⟨_,_,ks4,rfl,k4,g4,nd4,fun m=>?_⟩
   rw [hm4,zO hc]
   simp only [Bj,Ae]
   constructor
   ·rintro (⟨c',h1,h2⟩ | h)
    ·exact ⟨c',.inl h1,h2⟩
    ·exact ⟨c,.inr rfl,h⟩
   ·rintro ⟨c',h1 | h1,h2⟩
    ·exact .inl ⟨c',h1,h2⟩
    ·exact .inr (by rw [<- h1]; exact h2)
 ·rintro σ H3 ⟨o1,o2,ks,rfl,k3,g3,nd,hm⟩
  rw [pe.length,AE] at hm
  have k64:ks.length < 64:=DZ (qf nd fun m h=>hLm m ((aAn hN).mpr ((hm m).mp h))) hL
  refine ⟨D,ks,rfl,g3,k64,fun pl ms H4 s4 _ gl hs hms=>?_⟩
  refine ⟨pl,_,rfl,.inl ⟨SqL.of gl,fun p hp=>?_⟩⟩
  refine q p ms _ (fun b u e=>Same.new hp _ _ (s4 _ _ (k3 _ _ (sH2 _ _ e) (fun z=>zD e nDH (Ae.mp z))))) ⟨hs,fun m=>?_⟩ zC
  rw [hms,hm,aAn hN]
theorem aAF (a b:Int):(upto a b).length=(b + 1 - a).toNat:=by unfold upto; rw [Ah,Ge]
theorem aH0 {a b:Int} {i:Nat} (h:i < (b + 1 - a).toNat):(upto a b)[i]?=some (a + (i:Int)):=by
 unfold upto
 rw [AO,GU h]; rfl
theorem aBt {α β:Type} {l:List α} {i:Nat} {x:α} (h:l[i]?=some x) (f:α->List β):(l.take (i + 1)).flatMap f=(l.take i).flatMap f++f x:=by
 rw [zO h,BP]
 simp
theorem aH1 {α β:Type} (l:List α) (i:Nat) (f:α->List β):((l.take i).flatMap f).length<=(l.flatMap f).length:=by
 have:l.flatMap f=(l.take i).flatMap f++(l.drop i).flatMap f:=by rw [<- BP,Ee]
 rw [this,Ai]
 lia
open Classical in
noncomputable def metB (x:Int) (r:List Int):Bool:=decide (AllP r x)
open Classical in
theorem aJr {x:Int} {r:List Int} {b:Bool} (h:b=true↔AllP r x):b=metB x r:=by
 unfold metB
 by_cases e:AllP r x
 ·rw [decide_eq_true e]; exact h.mpr e
 ·rw [decide_eq_false e]
  cases b with
  | true=>exact absurd (h.mp rfl) e
  | false=>rfl
theorem qS {r:List Int} {k:Nat} (hk:k < 4) (h:r.length=k/\∀ n∈r,1<=n/\n<=9):Nums r:=⟨by lia,fun n hn=>⟨(h.2 n hn).1,by have:=(h.2 n hn).2; lia⟩⟩
noncomputable def spRo:Sp:=fun vs H Q _=>∃ (k g:Nat),vs=[.int k,.int g]/\k < 4/\g < 10/\∀ (p:Addr) (ys:List V) (H':Hp),Same H H'->H p=none->H' p=some (.lst ys)->AH (RowV H') ys (zL g k)->Q (.ref p) H'
noncomputable abbrev qL:Stmt:=top 36
theorem sc_rows_of:FnScope ["many","greatest","rows","at"] ["many","greatest"] (zG qL):=⟨rfl,rfl,rfl,by decide +kernel,rfl,by decide +kernel,by decide +kernel⟩
theorem aM4 {f:Addr} {fd:Bu} (F:Fun K "rows_of" "rows_of" qL f fd) (B:Blt mg) (Bmax:mg "max"=none):FnOk P w K mg base CX0 1 f fd ["many","greatest"] spRo:=by
 refine F.ok (k:=0) sc_rows_of (fun vs H Q E h=>?_) (fun cdv A outer s H vs Q E hr h=>?_)
 ·obtain ⟨k,g,rfl,_⟩:=h
  rfl
 obtain ⟨kk,g,rfl,hkk,hg,q⟩:=h
 refine ⟨_,(zF (zS (i:=2) sc_rows_of.nd rfl (by first | exact Bc rfl | exact Ba rfl) (yV (zB (yU zE) zE zt)))
   (zF (yH BD rfl (jJ rfl B.range (zB (pv 0) zE)) (zK (i:=3) sc_rows_of.nd rfl (by first | exact Bc rfl | exact Ba rfl)) (zI (aCy (i:=2) sc_rows_of.nd rfl (by first | exact Bc rfl | exact Ba rfl) (N:=["row","number","greatest"]) rfl (yn [none,none,some 1] rfl (by decide +kernel) (by decide +kernel) rfl rfl) rfl (zr (pv 2)) (fun _ _ _ _=>(zK (i:=0) (show (["row","number","greatest"]:List Str).Nodup by decide +kernel) rfl (by first | exact Bc rfl | exact Ba rfl))) (fun _ _ _ _=>(aBw rfl B.range (zB (aJF rfl Bmax (pv 0)) (zB (zW qB (pv 2) zM) zE)))) (fun _ _ _ _=>(zK (i:=1) (show (["row","number","greatest"]:List Str).Nodup by decide +kernel) rfl (by first | exact Bc rfl | exact Ba rfl))) (fun _ _ _ _=>(zW jq (pv 0) (yU (zB (pv 1) zE)))))))
   (zI (zV (pv 2))))),?_⟩
 try dsimp only [Cx.nox,kx1,kx2,kx3,kx4,kx5,kx6,kx7,kx8,kx9,kxa,kxb,kxc]
 have szl:=Bb
 refine ⟨(by show 0<=sizeLine; decide),fun p0 hp0=>⟨(by show 1<=sizeLine; decide),fun p1 hp1=>?_⟩⟩
 have n1:H p1=none:=zT (Same.new hp0) hp1
 refine ⟨_,rfl,_,rfl,by lia,by lia,jK (n:=kk) (fun k σ H'=>∃ (z:Option V) (pf:Addr) (ys:List V),σ=[some (.int kk),some (.int g),some (.ref pf),z]/\Same H H'/\H pf=none/\H' pf=some (.lst ys)/\AH (RowV H') ys (zL g k))
  ⟨none,p1,_,rfl,(Same.new hp0).trans (Same.new hp1),n1,zC,.cons ⟨p0,rfl,Same.new hp1 _ _ zC⟩ .nil⟩ ?_ ?_⟩
 ·rintro k σ H2 hk ⟨z,pf,ys,rfl,sH,nf,gf,pys⟩
  obtain ⟨sz1,sz2⟩:=ya (g:=g) (k:=k) hg (by lia)
  have sz3:=(ya (g:=g) (k:=k + 1) hg (by lia)).1
  refine ⟨_,rfl,pf,rfl,⟨_,SqL.of gf⟩,fun D hD C s2 fp=>?_⟩
  refine aBT (K:=K) (a:=pf) (xs:=ys) (fun i σ H3=>∃ (o1 o2:Option V) (zs:List V),σ=[o1,o2,some (.int g)]/\Same H2 H3/\H3 D=some (.lst zs)/\AH (RowV H3) zs (((zL g k).take i).flatMap fun r=>(upto (loR r) g).map fun n=>r++[n]))
   ⟨none,none,[],rfl,Same.new hD,zC,.nil⟩ (fun i σ H3 ⟨_,_,_,_,g,_⟩=>SqL.of (g _ _ gf)) ?_ ?_
  ·rintro i x σ H3 hi ⟨o1,o2,zs,rfl,s3,g3,pz⟩
   obtain ⟨r,hx,hw⟩:=zq pys hi
   obtain ⟨qx,rfl,gq⟩:=hw.kt (KT.same s3)
   obtain ⟨rl,rb⟩:=sz2 r (Au hx)
   refine ⟨_,rfl,qx,r,rfl,SqT.of gq,fun m hm=>?_⟩
   have em:m=loR r:=aKk (fun n hn=>(rb n hn).1) hm
   subst em
   have hlo:1<=loR r:=(aBe r 1).1
   have hlo9:loR r<=9:=by
    rcases (aBe r 1).2.2 with h | h
    ·show r.foldl max 1<=9; lia
    ·exact (rb _ h).2
   have hzb:∀ (j:Nat),j<=(((g:Int) + 1 - loR r)).toNat->((((zL g k).take i).flatMap fun r=>(upto (loR r) g).map fun n=>r++[n])++((upto (loR r) g).take j).map fun n=>r++[n]).length<=729:=fun j hj=>by
    have h1:=aH1 (zL g k) (i + 1) fun r=>(upto (loR r) g).map fun n=>r++[n]
    rw [aBt hx,Ai,Ah,aAF] at h1
    rw [Ai,Ah,Bz,aAF]
    have h2:((zL g k).flatMap fun r=>(upto (loR r) g).map fun n=>r++[n]).length<=729:=sz3
    lia
   refine ⟨_,rfl,_,_,rfl,rfl,loR r,(g:Int) + 1,rfl,⟨by lia,by lia,by lia,by lia⟩,?_⟩
   refine aHZ (lo:=loR r) (n:=((g:Int) + 1 - loR r).toNat) (fun j σ H4=>∃ (o2:Option V) (zs:List V),σ=[some (.ref qx),o2,some (.int g)]/\Same H2 H4/\H4 D=some (.lst zs)/\H4 qx=some (.tup (r.map V.int)) /\
    AH (RowV H4) zs ((((zL g k).take i).flatMap fun r=>(upto (loR r) g).map fun n=>r++[n])++((upto (loR r) g).take j).map fun n=>r++[n])) ⟨o2,zs,rfl,s3,g3,gq,by rw [CI,BX,AM]; exact pz⟩ ?_ ?_
   ·rintro j σ H4 hj ⟨o2,zs,rfl,s4,g4,gq4,pz4⟩
    have zl:=hzb j (by lia)
    rw [<- pz4.length] at zl
    have hat:=aH0 hj
    refine ⟨_,rfl,_,rfl,(by show 1<=sizeLine; decide),fun pu hpu=>?_⟩
    have su:=Same.new (o:=.tup [.int (loR r + (j:Int))]) hpu
    refine ⟨qx,pu,_,_,rfl,rfl,su _ _ gq4,zC,by rw [Ah]; show r.length + 1<=_; lia,fun pp H5 s5 g5=>?_⟩
    have s45:=su.trans s5
    have g7:=s45 _ _ g4
    have kt7:KT H5 (upd H5 D (.lst (zs++[.ref pp]))):=KT.upd g7
    refine ⟨zs,g7,by rw [szl]; lia,_,zs++[.ref pp],rfl,zf (s4.trans s45) hD,zC,kt7 _ _ (s45 _ _ gq4),?_⟩
    rw [zO hat,Bh,<- By]
    refine yG (Paired.mapP pz4 fun _ _ h=>h.kt (KT.trans (KT.same s45) kt7)) ⟨pp,rfl,?_⟩
    rw [kt7 _ _ g5,Bh]
    rfl
   ·rintro σ H4 ⟨o2,zs,rfl,s4,g4,gq4,pz4⟩
    refine ⟨_,_,zs,rfl,s4,g4,?_⟩
    rw [<- aAF,AE] at pz4
    rw [aBt hx]
    exact pz4
  ·rintro σ H3 ⟨o1,o2,zs,rfl,s3,g3,pz⟩
   refine ⟨_,D,zs,rfl,sH.trans s3,zT sH hD,g3,?_⟩
   have el:(zL g k).length=ys.length:=pys.length.symm
   rw [<- el,AE] at pz
   exact pz
 ·rintro σ H2 ⟨z,pf,ys,rfl,sH,nf,gf,pys⟩
  exact ⟨_,rfl,q pf ys H2 sH nf gf pys⟩
noncomputable def spRm:Sp:=fun vs H Q _=>∃ (k g:Nat) (x:Int),vs=[.int k,.int g,.int x]/\k < 4/\g < 10/\(∀ r∈zL g k,Few2 r)/\∀ (p:Addr) (ys:List V) (H':Hp),Same H H'->H p=none->H' p=some (.lst ys)->AH (RowV H') ys ((zL g k).filter (metB x))->Q (.ref p) H'
noncomputable abbrev ze:Stmt:=top 34
theorem aA2:FnScope ["many","greatest","wish"] ["many","greatest","wish"] (zG ze):=⟨rfl,rfl,rfl,by decide +kernel,rfl,by decide +kernel,by decide +kernel⟩
theorem aM5 {f:Addr} {fd:Bu} (F:Fun K "rows_that_meet" "rows_that_meet" ze f fd) (Gro:Def P w K mg base CX0 1 "rows_of" spRo) (Gall:Def P w K mg base CX0 11 "met_at_all" aLG):FnOk P w K mg base CX0 12 f fd ["many","greatest","wish"] spRm:=by
 refine F.ok (k:=11) aA2 (fun vs H Q E h=>?_) (fun cdv A outer s H vs Q E hr h=>?_)
 ·obtain ⟨k,g,x,rfl,_⟩:=h
  rfl
 obtain ⟨kk,g,x,rfl,hkk,hg,hF,q⟩:=h
 refine ⟨_,(zI (zV (yT (N:=["row","wish"]) rfl (yn [none,some 2] rfl (by decide +kernel) (by decide +kernel) rfl rfl) rfl (zr (zU Gro (hr.mono (by lia)) (zB (pv 0) (zB (pv 1) zE)))) (fun _ _ _ _=>(zK (i:=0) (show (["row","wish"]:List Str).Nodup by decide +kernel) rfl (by first | exact Bc rfl | exact Ba rfl))) (fun _ _ _ _=>(qX (zc aC1 (pv 1) (zU Gall (hr.mono (by lia)) (zB (pv 0) zE)) rfl))) (fun _ _ _ _=>(pv 0))))),?_⟩
 try dsimp only [Cx.nox,kx1,kx2,kx3,kx4,kx5,kx6,kx7,kx8,kx9,kxa,kxb,kxc]
 have szl:=Bb
 obtain ⟨sz1,sz2⟩:=ya hg hkk
 refine ⟨_,rfl,_,rfl,kk,g,rfl,hkk,hg,fun pf ys H1 s1 n1 gf pys=>?_⟩
 have yl:ys.length<=729:=by rw [pys.length]; exact sz1
 refine ⟨pf,rfl,⟨_,SqL.of gf⟩,fun D hD C s2 fp=>?_⟩
 refine qE (K:=K) (a:=pf) (xs:=ys) (fun i zs σ H3=>∃ (o1:Option V),σ=[o1,some (.int x)]/\Same H1 H3/\AH (RowV H3) zs (((zL g kk).take i).filter (metB x)))
  (fun i zs σ H3 ⟨_,_,g,_⟩=>SqL.of (g _ _ gf)) ⟨none,rfl,Same.new hD,.nil⟩ ?_ ?_
 ·rintro i v zs σ H3 hi hzl ⟨o1,rfl,s3,pz⟩ g3
  obtain ⟨r,hx,hw⟩:=zq pys hi
  obtain ⟨qx,rfl,gq⟩:=hw.kt (KT.same s3)
  have hil:=(Aq.mp hi).1
  have ef:=yt hx (metB x)
  have hN:=qS hkk (sz2 r (Au hx))
  refine ⟨_,rfl,_,rfl,qx,r,rfl,gq,hN,hF r (Au hx),fun pa rr H4 s4 hrr ga=>?_⟩
  refine ⟨pa,_,rfl,.inr (SqT.of ga),rfl,aAk rr,_,rfl,?_⟩
  rw [if_neg (by decide),aDU]; unfold inI
  have eb:decide (x∈rr)=metB x r:=aJr (by rw [decide_eq_true_eq]; exact hrr.2 x)
  rw [eb]
  refine ite2 (fun c=>?_) (fun c=>?_)
  ·rw [if_pos c] at ef
   have g4:=s4 _ _ g3
   have kt7:KT H4 (upd H4 D (.lst (zs++[.ref qx]))):=KT.upd g4
   refine ⟨_,rfl,zs,g4,by rw [szl]; lia,zs++[.ref qx],by rw [Ai]; exact CJ hzl,⟨_,rfl,zf (s3.trans s4) hD,?_⟩,zC⟩
   rw [ef]
   exact yG (Paired.mapP pz fun _ _ h=>h.kt (KT.trans (KT.same s4) kt7)) ⟨qx,rfl,kt7 _ _ (s4 _ _ gq)⟩
  ·rw [if_neg c,AM] at ef
   refine ⟨zs,DO hzl,⟨_,rfl,s3.trans s4,?_⟩,s4 _ _ g3⟩
   rw [ef]
   exact Paired.mapP pz fun _ _ h=>h.kt (KT.same s4)
 ·rintro zs σ H3 ⟨o1,rfl,s3,pz⟩ g3
  have el:(zL g kk).length=ys.length:=pys.length.symm
  rw [<- el,AE] at pz
  exact q D zs H3 (s1.trans s3) (zT s1 hD) g3 pz
noncomputable def spAr:Sp:=fun vs H Q _=>∃ (k g:Nat),vs=[.int k,.int g]/\k < 4/\g < 10/\∀ (p:Addr) (ys:List V) (H':Hp),Same H H'->H p=none->H' p=some (.lst ys)->AH (RowV H') ys (zL g k)->Q (.ref p) H'
theorem jg {K:Af} {H:Hp}:∀ l:List Int,Reps K H (l.map D.int) (l.map V.int)
 | []=>by unfold Reps; rfl
 | i :: r=>by
  show Reps K H (D.int i :: r.map D.int) (V.int i :: r.map V.int)
  unfold Reps
  exact ⟨_,_,rfl,by unfold Rep; rfl,jg r⟩
theorem aAo:∀ l:List Int,deps (l.map D.int)=0
 | []=>by rw [BX,deps]
 | i :: r=>by
  rw [AA,deps,aAo r,D.dep]
  all_goals simp
theorem aH2 {r ms:List Int} (hp:ms.Perm r) (hs:ms.Pairwise (·<=·)):eqDs (r.map D.int) (ms.map D.int)=ndB r:=by
 rw [aC5]
 cases e:ndB r with
 | true=>exact decide_eq_true (aAR hp.symm ((aDE r).mp e) hs)
 | false =>
  refine decide_eq_false fun z=>?_
  rw [<- z] at hs
  rw [(aDE r).mpr hs] at e
  cases e
noncomputable abbrev zk:Stmt:=top 39
theorem sc_law_all_rows:FnScope ["many","greatest","found","k","longer","row"] ["many","greatest"] (zG zk):=⟨rfl,rfl,rfl,by decide +kernel,rfl,by decide +kernel,by decide +kernel⟩
theorem aM6 {f:Addr} {fd:Bu} (F:Fun K "_law_all_rows" "_law_all_rows" zk f fd) (B:Blt mg) (Blist:mg "list"=none) (Bsorted:mg "sorted"=none):FnOk P w K mg base CX0 1 f fd ["many","greatest"] spAr:=by
 refine F.ok (k:=0) sc_law_all_rows (fun vs H Q E h=>?_) (fun cdv A outer s H vs Q E hr h=>?_)
 ·obtain ⟨k,g,rfl,_⟩:=h
  rfl
 obtain ⟨kk,g,rfl,hkk,hg,q⟩:=h
 refine ⟨_,(zF (zS (i:=2) sc_law_all_rows.nd rfl (by first | exact Bc rfl | exact Ba rfl) (yV (zB (yU zE) zE zt)))
   (zF (yH BD rfl (jJ rfl B.range (zB (pv 0) zE)) (zK (i:=3) sc_law_all_rows.nd rfl (by first | exact Bc rfl | exact Ba rfl)) (zF (zS (i:=4) sc_law_all_rows.nd rfl (by first | exact Bc rfl | exact Ba rfl) (yV zE))
   (zF (yH BD rfl (zr (pv 2)) (zK (i:=5) sc_law_all_rows.nd rfl (by first | exact Bc rfl | exact Ba rfl)) (zI (yJ (aAq BH FC FD aFA (pv 4) (zB (yT (N:=["number","row"]) rfl (yn [none,some 5] rfl (by decide +kernel) (by decide +kernel) rfl rfl) rfl (aBw rfl B.range (zB zM (zB (zW qB (pv 1) zM) zE))) (fun _ _ _ _=>(zK (i:=0) (show (["number","row"]:List Str).Nodup by decide +kernel) rfl (by first | exact Bc rfl | exact Ba rfl))) (fun _ _ _ _=>aCq) (fun _ _ _ _=>(zW jq (pv 1) (yU (zB (pv 0) zE))))) zE)))))
   (zI (zS (i:=2) sc_law_all_rows.nd rfl (by first | exact Bc rfl | exact Ba rfl) (pv 4))))))
   (zI (zV (yT (N:=["row"]) rfl (yn [none] rfl (by decide +kernel) (by decide +kernel) rfl rfl) rfl (zr (pv 2)) (fun _ _ _ _=>(zK (i:=0) (show (["row"]:List Str).Nodup by decide +kernel) rfl (by first | exact Bc rfl | exact Ba rfl))) (fun _ _ _ _=>(qX (zc (aKJ (hu60 hr)) (yj aA3 rfl Blist aFG (zB (pv 0) zE)) (zY aD1 rfl Bsorted yk (zB (pv 0) zE)) (zn _)))) (fun _ _ _ _=>(pv 0))))))),?_⟩
 try dsimp only [Cx.nox,kx1,kx2,kx3,kx4,kx5,kx6,kx7,kx8,kx9,kxa,kxb,kxc]
 have szl:=Bb
 refine ⟨(by show 0<=sizeLine; decide),fun p0 hp0=>⟨(by show 1<=sizeLine; decide),fun p1 hp1=>?_⟩⟩
 have n1:H p1=none:=zT (Same.new hp0) hp1
 refine ⟨_,rfl,_,rfl,by lia,by lia,jK (n:=kk) (fun k σ H'=>∃ (z1 z2 z3:Option V) (pf:Addr) (ys:List V),σ=[some (.int kk),some (.int g),some (.ref pf),z1,z2,z3]/\Same H H'/\H pf=none/\H' pf=some (.lst ys)/\AH (RowV H') ys (allR g k))
  ⟨none,none,none,p1,_,rfl,(Same.new hp0).trans (Same.new hp1),n1,zC,.cons ⟨p0,rfl,Same.new hp1 _ _ zC⟩ .nil⟩ ?_ ?_⟩
 ·rintro k σ H2 hk ⟨z1,z2,z3,pf,ys,rfl,sH,nf,gf,pys⟩
  obtain ⟨sz1,sz2⟩:=aBd (g:=g) (k:=k) hg (by lia)
  have sz3:=(aBd (g:=g) (k:=k + 1) hg (by lia)).1
  refine ⟨(by show 0<=sizeLine; decide),fun pl hpl=>?_⟩
  have sl:=Same.new (o:=.lst []) hpl
  have npf:pf≠pl:=zD gf hpl
  dsimp only [aBC]
  refine aBl (fun σ' H'=>∃ (z1 z3:Option V) (zs:List V),σ'=[some (.int kk),some (.int g),some (.ref pf),z1,some (.ref pl),z3]/\Same H2 H'/\H' pl=some (.lst zs)/\AH (RowV H') zs (allR g (k + 1))) ?_ ?_
  ·rintro σ' H' ⟨z1,z3,zs,rfl,s',gp,pz⟩
   exact ⟨_,rfl,_,_,_,pl,zs,rfl,sH.trans s',zT sH hpl,gp,pz⟩
  ·intro X' hX
   refine ⟨_,rfl,pf,rfl,⟨_,SqL.of (sl _ _ gf)⟩,qN (K:=K) (a:=pf) (xs:=ys) (fun i σ H3=>∃ (z1 z3:Option V) (zs:List V),σ=[some (.int kk),some (.int g),some (.ref pf),z1,some (.ref pl),z3]/\Same H2 H3/\H3 pl=some (.lst zs)/\AH (RowV H3) zs (((allR g k).take i).flatMap fun r=>(upto 1 g).map fun n=>r++[n]))
    ⟨_,_,[],rfl,sl,zC,.nil⟩ (fun i σ H' _ ⟨_,_,_,_,g,_⟩=>SqL.of (g _ _ gf)) ?_ ?_⟩
   ·rintro i x σ H3 hi ⟨z1,z3,zs,rfl,s3,gp,pz⟩
    obtain ⟨r,hx,hw⟩:=zq pys hi
    obtain ⟨qx,rfl,gq⟩:=hw.kt (KT.same s3)
    obtain ⟨rl,rb⟩:=sz2 r (Au hx)
    have hzb:(((allR g k).take i).flatMap fun r=>(upto 1 g).map fun n=>r++[n]).length + (upto 1 g).length<=729:=by
     have h1:=aH1 (allR g k) (i + 1) fun r=>(upto 1 g).map fun n=>r++[n]
     rw [aBt hx,Ai,Ah] at h1
     have h2:((allR g k).flatMap fun r=>(upto 1 g).map fun n=>r++[n]).length<=729:=sz3
     lia
    rw [<- pz.length] at hzb
    refine ⟨_,rfl,.inl ⟨rfl,_,SqL.of gp⟩,_,rfl,_,_,rfl,rfl,1,(g:Int) + 1,rfl,⟨by decide,by decide,by lia,by lia⟩,fun D hD C s2 fp=>?_⟩
    refine aEP (lo:=1) (n:=((g:Int) + 1 - 1).toNat) (tt:=fun _ H Q=>Q true H) (fun j ws σ H4=>∃ o:Option V,σ=[o,some (.ref qx)]/\Same H3 H4/\AH (RowV H4) ws (((upto 1 g).take j).map fun n=>r++[n])) ⟨none,rfl,Same.new hD,.nil⟩ ?_ ?_
    ·rintro j ws σ H4 hj hwl ⟨o,rfl,s4,pw⟩ g4
     have hat:=aH0 (a:=1) (b:=(g:Int)) hj
     refine ⟨_,rfl,_,rfl,(by show 1<=sizeLine; decide),fun pt hpt=>?_⟩
     have st:=Same.new (o:=.tup [.int (1 + (j:Int))]) hpt
     refine ⟨qx,pt,_,_,rfl,rfl,st _ _ (s4 _ _ gq),zC,by rw [Ah]; show r.length + 1<=_; lia,fun pp H5 s5 g5=>?_⟩
     have s45:=st.trans s5
     have g7:=s45 _ _ g4
     have kt7:KT H5 (upd H5 D (.lst (ws++[.ref pp]))):=KT.upd g7
     refine ⟨ws,g7,by rw [szl]; lia,ws++[.ref pp],by rw [Ai]; exact CJ hwl,⟨_,rfl,zf (s4.trans s45) hD,?_⟩,zC⟩
     rw [zO hat,Bh]
     refine yG (Paired.mapP pw fun _ _ h=>h.kt (KT.trans (KT.same s45) kt7)) ⟨pp,rfl,?_⟩
     rw [kt7 _ _ g5,Bh]
     rfl
    ·rintro ws σ H4 ⟨o,rfl,s4,pw⟩ g4
     rw [<- aAF,AE] at pw
     have wl:ws.length=(upto 1 g).length:=by rw [pw.length,Ah]
     have gp4:=s4 _ _ gp
     refine ⟨pl,D,zs,ws,rfl,rfl,gp4,g4,by rw [szl]; lia,?_⟩
     have kt7:KT H4 (upd H4 pl (.lst (zs++ws))):=KT.upd gp4
     refine ⟨_,_,zs++ws,rfl,zf (s3.trans s4) hpl,zC,?_⟩
     rw [aBt hx]
     exact aAy (Paired.mapP pz fun _ _ h=>h.kt (KT.trans (KT.same s4) kt7)) (Paired.mapP pw fun _ _ h=>h.kt kt7)
   ·rintro σ H3 ⟨z1,z3,zs,rfl,s3,gp,pz⟩
    have el:(allR g k).length=ys.length:=pys.length.symm
    rw [<- el,AE] at pz
    exact hX _ _ ⟨_,_,zs,rfl,s3,gp,pz⟩
 ·rintro σ H2 ⟨z1,z2,z3,pf,ys,rfl,sH,nf,gf,pys⟩
  obtain ⟨sz1,sz2⟩:=aBd hg hkk
  have yl:ys.length<=729:=by rw [pys.length]; exact sz1
  refine ⟨_,rfl,pf,rfl,⟨_,SqL.of gf⟩,fun D hD C s2 fp=>?_⟩
  refine qE (K:=K) (a:=pf) (xs:=ys) (fun i zs σ H3=>∃ (o1:Option V),σ=[o1]/\Same H2 H3/\AH (RowV H3) zs (((allR g kk).take i).filter ndB))
   (fun i zs σ H3 ⟨_,_,g,_⟩=>SqL.of (g _ _ gf)) ⟨none,rfl,Same.new hD,.nil⟩ ?_ ?_
  ·rintro i v zs σ H3 hi hzl ⟨o1,rfl,s3,pz⟩ g3
   obtain ⟨r,hx,hw⟩:=zq pys hi
   obtain ⟨qx,rfl,gq⟩:=hw.kt (KT.same s3)
   have hil:=(Aq.mp hi).1
   have ef:=yt hx ndB
   have rl:=(sz2 r (Au hx)).1
   refine ⟨_,rfl,qx,_,rfl,.inr (SqT.of gq),fun pa hpa=>?_⟩
   have sa:=Same.new (o:=.lst (r.map V.int)) hpa
   refine ⟨_,rfl,qx,r,rfl,SqT.of (sa _ _ gq),by lia,fun pb ms H4 s4 gb hpm hsm=>?_⟩
   have s34:=sa.trans s4
   refine ⟨r.map L2.D.int,ms.map L2.D.int,.inl ⟨?_,?_⟩,by rw [aAo]; decide,_,rfl,?_⟩
   ·unfold Rep; exact ⟨pa,_,rfl,SqL.of (s4 _ _ zC),jg r⟩
   ·unfold Rep; exact ⟨pb,_,rfl,SqL.of gb,jg ms⟩
   rw [if_neg (by decide),aH2 hpm hsm]
   refine ite2 (fun c=>?_) (fun c=>?_)
   ·rw [if_pos c] at ef
    have g4:=s34 _ _ g3
    have kt7:KT H4 (upd H4 D (.lst (zs++[.ref qx]))):=KT.upd g4
    refine ⟨_,rfl,zs,g4,by rw [szl]; lia,zs++[.ref qx],by rw [Ai]; exact CJ hzl,⟨_,rfl,zf (s3.trans s34) hD,?_⟩,zC⟩
    rw [ef]
    exact yG (Paired.mapP pz fun _ _ h=>h.kt (KT.trans (KT.same s34) kt7)) ⟨qx,rfl,kt7 _ _ (s34 _ _ gq)⟩
   ·rw [if_neg c,AM] at ef
    refine ⟨zs,DO hzl,⟨_,rfl,s3.trans s34,?_⟩,s34 _ _ g3⟩
    rw [ef]
    exact Paired.mapP pz fun _ _ h=>h.kt (KT.same s34)
  ·rintro zs σ H3 ⟨o1,rfl,s3,pz⟩ g3
   have el:(allR g kk).length=ys.length:=pys.length.symm
   rw [<- el,AE,aGO hg hkk] at pz
   exact q D zs H3 (sH.trans s3) (zT sH hD) g3 pz
noncomputable def aLI:Sp:=fun vs H Q _=>∃ (k g:Nat) (x m:Int),vs=[.int k,.int g,.int x,.int m]/\k < 4/\g < 10/\(∀ r∈zL g k,GdN r)/\∀ (p:Addr) (ys:List V) (H':Hp),Same H H'->H p=none->H' p=some (.lst ys)->AH (RowV H') ys ((zL g k).filter fun r=>decide (cntW x r=m))->Q (.ref p) H'
noncomputable abbrev yS:Stmt:=top 35
theorem aCe:FnScope ["many","greatest","wish","forms"] ["many","greatest","wish","forms"] (zG yS):=⟨rfl,rfl,rfl,by decide +kernel,rfl,by decide +kernel,by decide +kernel⟩
theorem aLJ {f:Addr} {fd:Bu} (F:Fun K "rows_with" "rows_with" yS f fd) (Gro:Def P w K mg base CX0 1 "rows_of" spRo) (Gmf:Def P w K mg base CX0 13 "many_forms" aJm):FnOk P w K mg base CX0 14 f fd ["many","greatest","wish","forms"] aLI:=by
 refine F.ok (k:=13) aCe (fun vs H Q E h=>?_) (fun cdv A outer s H vs Q E hr h=>?_)
 ·obtain ⟨k,g,x,m,rfl,_⟩:=h
  rfl
 obtain ⟨kk,g,x,m,rfl,hkk,hg,hG,q⟩:=h
 refine ⟨_,(zI (zV (yT (N:=["row","forms","wish"]) rfl (yn [none,some 3,some 2] rfl (by decide +kernel) (by decide +kernel) rfl rfl) rfl (zr (zU Gro (hr.mono (by lia)) (zB (pv 0) (zB (pv 1) zE)))) (fun _ _ _ _=>(zK (i:=0) (show (["row","forms","wish"]:List Str).Nodup by decide +kernel) rfl (by first | exact Bc rfl | exact Ba rfl))) (fun _ _ _ _=>(qX (zc aCn (zU Gmf (hr.mono (by lia)) (zB (pv 0) (zB (pv 2) zE))) (pv 1) (zn _)))) (fun _ _ _ _=>(pv 0))))),?_⟩
 try dsimp only [Cx.nox,kx1,kx2,kx3,kx4,kx5,kx6,kx7,kx8,kx9,kxa,kxb,kxc]
 have szl:=Bb
 obtain ⟨sz1,sz2⟩:=ya hg hkk
 refine ⟨_,rfl,_,rfl,kk,g,rfl,hkk,hg,fun pf ys H1 s1 n1 gf pys=>?_⟩
 have yl:ys.length<=729:=by rw [pys.length]; exact sz1
 refine ⟨pf,rfl,⟨_,SqL.of gf⟩,fun D hD C s2 fp=>?_⟩
 refine qE (K:=K) (a:=pf) (xs:=ys) (fun i zs σ H3=>∃ (o1:Option V),σ=[o1,some (.int m),some (.int x)]/\Same H1 H3/\AH (RowV H3) zs (((zL g kk).take i).filter fun r=>decide (cntW x r=m)))
  (fun i zs σ H3 ⟨_,_,g,_⟩=>SqL.of (g _ _ gf)) ⟨none,rfl,Same.new hD,.nil⟩ ?_ ?_
 ·rintro i v zs σ H3 hi hzl ⟨o1,rfl,s3,pz⟩ g3
  obtain ⟨r,hx,hw⟩:=zq pys hi
  obtain ⟨qx,rfl,gq⟩:=hw.kt (KT.same s3)
  have hil:=(Aq.mp hi).1
  have ef:=yt hx (fun r=>decide (cntW x r=m))
  have hrm:=Au hx
  have hN:=qS hkk (sz2 r hrm)
  refine ⟨_,rfl,_,rfl,qx,r,x,rfl,gq,hN,hG r hrm,fun H4 s4=>⟨_,rfl,rfl,_,rfl,?_⟩⟩
  have e2:decide (V.int (cntW x r)=V.int m)=decide (cntW x r=m):=decide_eq_decide.mpr ⟨fun z=>V.int.inj z,fun z=>by rw [z]⟩
  rw [e2]
  refine ite2 (fun c=>?_) (fun c=>?_)
  ·rw [if_pos c] at ef
   have g4:=s4 _ _ g3
   have kt7:KT H4 (upd H4 D (.lst (zs++[.ref qx]))):=KT.upd g4
   refine ⟨_,rfl,zs,g4,by rw [szl]; lia,zs++[.ref qx],by rw [Ai]; exact CJ hzl,⟨_,rfl,zf (s3.trans s4) hD,?_⟩,zC⟩
   rw [ef]
   exact yG (Paired.mapP pz fun _ _ h=>h.kt (KT.trans (KT.same s4) kt7)) ⟨qx,rfl,kt7 _ _ (s4 _ _ gq)⟩
  ·rw [if_neg c,AM] at ef
   refine ⟨zs,DO hzl,⟨_,rfl,s3.trans s4,?_⟩,s4 _ _ g3⟩
   rw [ef]
   exact Paired.mapP pz fun _ _ h=>h.kt (KT.same s4)
 ·rintro zs σ H3 ⟨o1,rfl,s3,pz⟩ g3
  have el:(zL g kk).length=ys.length:=pys.length.symm
  rw [<- el,AE] at pz
  exact q D zs H3 (s1.trans s3) (zT s1 hD) g3 pz
open Classical in
theorem met_true {x:Int} {r:List Int}:metB x r=true↔AllP r x:=by
 unfold metB
 exact decide_eq_true_iff
theorem aHv {H:Hp} {p:Addr} {r:List Int} (g:H p=some (.tup (r.map V.int))):Rep K H (.tup (r.map D.int)) (.ref p):=by
 unfold Rep
 exact ⟨p,_,rfl,SqT.of g,jg r⟩
theorem aCf {H:Hp}:∀ {zs:List V} {rs:List (List Int)},AH (RowV H) zs rs->Reps K H (rs.map fun r=>D.tup (r.map D.int)) zs
 | _,_,.nil=>by unfold Reps; rfl
 | _,_,.cons h t=>by
  obtain ⟨q,rfl,g⟩:=h
  unfold Reps
  exact ⟨_,_,rfl,aHv g,aCf t⟩
theorem jh:∀ rs:List (List Int),deps (rs.map fun r=>D.tup (r.map D.int))<=1
 | []=>by rw [BX,deps]; decide
 | r :: t=>by
  have:=jh t
  rw [AA,deps,D.dep,aAo]
  lia
theorem qM {H:Hp} {p:Addr} {zs:List V} {rs:List (List Int)} (g:H p=some (.lst zs)) (h:AH (RowV H) zs rs):Rep K H (.lst (rs.map fun r=>D.tup (r.map D.int))) (.ref p):=by
 unfold Rep
 exact ⟨p,_,rfl,SqL.of g,aCf h⟩
theorem aHw {D:Ends} {σ:St} {H:Hp} (h:D.nx σ H):aK2 D σ H:=h
noncomputable def okKG (k g:Nat):Prop:=1<=k/\1<=g/\((k < 3/\g < 10)\/(k=3/\g < 4))
noncomputable def ordB:List (List Int)->Bool
 | []=>true
 | r :: t=>(t.all fun y=>!lx y r) && ordB t
theorem aDW:∀ {l:List (List Int)},ordB l=true->l.Pairwise (fun a b=>lx b a=false)
 | [],_=>BJ
 | r :: t,h=>by
  unfold ordB at h
  rw [AD,AK] at h
  exact AG.mpr ⟨fun y hy=>by simpa using h.1 y hy,aDW h.2⟩
noncomputable def fewB:Bool:=((BQ 3).all fun k=>(BQ 10).all fun g=>GY (zL (g:Int) k).length 64 && ordB (zL (g:Int) k) && (zL (g:Int) k).all fun r=>(zL 9 k).contains r) && (BQ 4).all fun g=>GY (zL (g:Int) 3).length 64 && ordB (zL (g:Int) 3) && (zL (g:Int) 3).all fun r=>(zL 3 3).contains r
theorem aHx:fewB=true:=by decide +kernel
noncomputable def aH3 (ns:List Int):Bool:=aJo ns && GY ((chA ns.length).flatMap (rowC ns 4)).length 64
theorem aH4 {ns:List Int} (hN:Nums ns) (h:aH3 ns=true):Few2 ns:=by
 unfold aH3 at h
 rw [AD] at h
 have h1:((chA ns.length).flatMap (rowC ns 4)).length<=63:=by simpa [GY] using h.2
 refine ⟨aEG hN h.1,_,DZ h1 (by decide),fun m hm=>?_⟩
 obtain ⟨c,hc,hr⟩:=(aAn hN).mp hm
 have l:=yO (n:=ns.length) (c:=c) hc
 refine AS.mpr ⟨c,hc,?_⟩
 rw [aAl hN 4 c l.1 l.2 (by have:=aAi c; have:=hN.1; lia)]
 exact hr
set_option maxRecDepth 1000000 in
theorem ck_f:((zL 9 1).all aH3 && (zL 9 2).all aH3 && (zL 3 3).all aH3)=true:=by decide +kernel
set_option maxRecDepth 1000000 in
theorem ck_1:(zL 9 1).all chkN=true:=by decide +kernel
set_option maxRecDepth 1000000 in
theorem ck_2:(zL 9 2).all chkN=true:=by decide +kernel
set_option maxRecDepth 1000000 in
theorem ck_3:(zL 3 3).all chkN=true:=by decide +kernel
theorem aHy {k g:Nat} (h:okKG k g):(zL (g:Int) k).length < 64/\(zL (g:Int) k).Pairwise (fun a b=>lx b a=false)/\(∀ r∈zL (g:Int) k,GdN r)/\∀ r∈zL (g:Int) k,Few2 r:=by
 have ckf:=ck_f
 rw [AD,AD,AK,AK,AK] at ckf
 have fb:=aHx
 unfold fewB at fb
 rw [AD,AK,AK] at fb
 obtain ⟨h1,_,h | ⟨h3,h4⟩⟩:=h
 ·have f1:=AK.mp (fb.1 k (Cm.mpr h.1)) g (Cm.mpr h.2)
  rw [AD,AD,AK] at f1
  have l:(zL (g:Int) k).length<=63:=by simpa [GY] using f1.1.1
  refine ⟨by lia,aDW f1.1.2,fun r hr=>?_,fun r hr=>?_⟩
  ·have hm:r∈zL 9 k:=by simpa using f1.2 r hr
   have hs:=(ya (g:=g) (k:=k) h.2 (by lia)).2 r hr
   have hN:=qS (show k < 4 by lia) hs
   refine aGz hN ?_
   match k,h1,h.1 with
   | 1,_,_=>exact AK.mp ck_1 r hm
   | 2,_,_=>exact AK.mp ck_2 r hm
  ·have hm:r∈zL 9 k:=by simpa using f1.2 r hr
   have hs:=(ya (g:=g) (k:=k) h.2 (by lia)).2 r hr
   have hN:=qS (show k < 4 by lia) hs
   refine aH4 hN ?_
   match k,h1,h.1 with
   | 1,_,_=>exact ckf.1.1 r hm
   | 2,_,_=>exact ckf.1.2 r hm
 ·subst h3
  have f1:=fb.2 g (Cm.mpr h4)
  rw [AD,AD,AK] at f1
  have l:(zL (g:Int) 3).length<=63:=by simpa [GY] using f1.1.1
  refine ⟨by lia,aDW f1.1.2,fun r hr=>?_,fun r hr=>?_⟩
  ·have hm:r∈zL 3 3:=by simpa using f1.2 r hr
   have hs:=(ya (g:=g) (k:=3) (by lia) (by decide)).2 r hr
   exact aGz (qS (show 3 < 4 by decide) hs) (AK.mp ck_3 r hm)
  ·have hm:r∈zL 3 3:=by simpa using f1.2 r hr
   have hs:=(ya (g:=g) (k:=3) (by lia) (by decide)).2 r hr
   exact aH4 (qS (show 3 < 4 by decide) hs) (ckf.2 r hm)
theorem aCg:∀ {a b:List (List Int)},a.Perm b->a.Pairwise (fun x y=>lx y x=false)->b.Pairwise (fun x y=>lx y x=false)->a=b
 | [],b,p,_,_=>(Nf.mp p).symm
 | x :: r,b,p,oa,ob=>by
  cases b with
  | nil=>exact absurd p.length_eq (by simp)
  | cons y q =>
   obtain ⟨a1,a2⟩:=AG.mp oa
   obtain ⟨b1,b2⟩:=AG.mp ob
   have e:x=y:=by
    by_cases c:x=y
    ·exact c
    have m1:x∈q:=by
     rcases Aj.mp (p.mem_iff.mp (Am ..)) with h | h
     ·exact absurd h c
     ·exact h
    have m2:y∈r:=by
     rcases Aj.mp (p.mem_iff.mpr (Am ..)) with h | h
     ·exact absurd h.symm c
     ·exact h
    exact aAB _ _ (b1 x m1) (a1 y m2)
   subst e
   rw [aCg (Lb p) a2 b2]
theorem aCh (f:List Int->Int):∀ (ms:List Int) (rows:List (List Int)),ms.Nodup->(∀ r∈rows,f r∈ms)->(ms.flatMap fun m=>rows.filter fun r=>decide (f r=m)).Perm rows
 | [],rows,_,h=>by
  cases rows with
  | nil=>exact .refl _
  | cons r t=>exact nomatch h r (Am ..)
 | m :: ms,rows,nd,h=>by
  obtain ⟨n1,n2⟩:=Dv.mp nd
  rw [Bm]
  have e:(ms.flatMap fun m'=>rows.filter fun r=>decide (f r=m'))=ms.flatMap fun m'=>(rows.filter fun r=>!decide (f r=m)).filter fun r=>decide (f r=m'):=aAm fun m' hm'=>by
   rw [List.filter_filter]
   congr 1
   funext r
   by_cases c:f r=m'
   ·have:¬ f r=m:=fun z=>n1 (by rw [<- z,c]; exact hm')
    simp [c,this]
    exact fun z=>this (c.trans z)
   ·simp [c]
  have ih:=aCh f ms (rows.filter fun r=>!decide (f r=m)) n2 fun r hr=>by
   obtain ⟨h1,h2⟩:=Bi.mp hr
   rcases Aj.mp (h r h1) with z | z
   ·rw [z] at h2; simp at h2
   ·exact z
  rw [e]
  exact (Jz _ ih).trans (List.filter_append_perm _ rows)
theorem aJs {x:Int} {r:List Int} (hN:Nums r):metB x r=decide (cntW x r > 0):=by
 have h:AllP r x↔cntW x r > 0:=by
  rw [aAn hN]
  have:=aED hN x
  unfold cntW
  constructor
  ·intro h; have:=this.mpr h; lia
  ·intro h; exact this.mp (by lia)
 by_cases c:AllP r x
 ·rw [met_true.mpr c,decide_eq_true (h.mp c)]
 ·rw [decide_eq_false (fun z=>c (h.mpr z))]
  cases e:metB x r with
  | false=>rfl
  | true=>exact absurd (met_true.mp e) c
theorem aH5 {rows:List (List Int)} {p q:List Int->Bool} (h:∀ r∈rows,p r=q r):rows.filter p=rows.filter q:=List.filter_congr h
noncomputable def aLK:Bool:=(BQ 10).all fun g=>NJ g 0 || ((zL (g:Int) 1).contains [1] && (zL (g:Int) 2).contains [1,1] && (zL (g:Int) 3).contains [1,1,1])
theorem aH6:aLK=true:=by decide +kernel
theorem aHz {k g:Nat} (h1:1<=g) (hk:k=1\/k=2\/k=3) (hg:g < 10):Fg k (1:Int)∈zL (g:Int) k:=by
 have h:=aH6
 unfold aLK at h
 have h:=AK.mp h g (Cm.mpr hg)
 rw [Mj,AD,AD] at h
 rcases h with h | ⟨⟨ha,hb⟩,hc⟩
 ·have:g<=0:=Gu h
  lia
 ·rcases hk with rfl | rfl | rfl
  ·simpa using ha
  ·simpa using hb
  ·simpa using hc
noncomputable def l45B:Bool:=((BQ 3).all fun k=>(BQ 10).all fun g=>NJ (zL (g:Int) k).length 45) && (BQ 4).all fun g=>NJ (zL (g:Int) 3).length 45
theorem aI0:l45B=true:=by decide +kernel
theorem aM7 {k g:Nat} (h:okKG k g):(zL (g:Int) k).length<=45:=by
 have fb:=aI0
 unfold l45B at fb
 rw [AD,AK,AK] at fb
 obtain ⟨_,_,h | ⟨h3,h4⟩⟩:=h
 ·exact Gu (AK.mp (fb.1 k (Cm.mpr h.1)) g (Cm.mpr h.2))
 ·subst h3
  exact Gu (fb.2 g (Cm.mpr h4))
noncomputable abbrev aBu:Stmt:=top 40
theorem sc_law:FnScope ["script","number","many","greatest","wish","rows","counts","met","told","forms","some","far","at"] ["script"] (zG aBu):=⟨rfl,rfl,rfl,by decide +kernel,rfl,by decide +kernel,by decide +kernel⟩
theorem aLL {f:Addr} {fd:Bu} (F:Fun K "law" "law" aBu f fd) (B:Blt mg) (Bmax:mg "max"=none) (Bset:mg "set"=none) (Bsorted:mg "sorted"=none) (Gnum:Def P w K mg base CX0 1 "_law_number" (aLE K)) (Gar:Def P w K mg base CX0 1 "_law_all_rows" spAr) (Gaf:Def P w K mg base CX0 12 "all_forms" aJl) (Gmf:Def P w K mg base CX0 13 "many_forms" aJm) (Grm:Def P w K mg base CX0 12 "rows_that_meet" spRm) (Grw:Def P w K mg base CX0 14 "rows_with" aLI):FnOk P w K mg base CX0 30 f fd ["script"] (aHP K):=by
 refine F.ok (k:=29) sc_law (fun vs H Q E h=>?_) (fun cdv A outer s H vs Q E hr h=>?_)
 ·obtain ⟨a,xs,rfl,_⟩:=h
  rfl
 obtain ⟨a,xs,rfl,hS,hl,q⟩:=h
 refine ⟨_,(zF (zS (i:=1) sc_law.nd rfl (by first | exact Bc rfl | exact Ba rfl) (zU Gnum (hr.mono (by lia)) (zB (pv 0) (zB zM zE))))
   (zF (zS (i:=2) sc_law.nd rfl (by first | exact Bc rfl | exact Ba rfl) (jk jl (yV (zB zM (zB zM (zB zM zE)))) (zW qC (pv 1) zM) (fun _ _=>rfl)))
   (zF (zS (i:=3) sc_law.nd rfl (by first | exact Bc rfl | exact Ba rfl) (zW qB zM (zW qC (zW aCm (pv 1) zM) (jk jl (yV (zB zM (zB zM (zB zM zE)))) (zW aI2 (pv 2) zM) (fun _ _=>rfl)))))
   (zF (zS (i:=4) sc_law.nd rfl (by first | exact Bc rfl | exact Ba rfl) (zW qB zM (zW qC (zU Gnum (hr.mono (by lia)) (zB (pv 0) (zB zM zE))) (jk jl (yV (zB zM (zB zM (zB zM (zB zM zE))))) (zW qC (zU Gnum (hr.mono (by lia)) (zB (pv 0) (zB zM zE))) zM) (fun _ _=>rfl)))))
   (zF (zS (i:=5) sc_law.nd rfl (by first | exact Bc rfl | exact Ba rfl) (zU Gar (hr.mono (by lia)) (zB (pv 2) (zB (pv 3) zE))))
   (zF (aIz (i:=6) sc_law.nd rfl (by first | exact Bc rfl | exact Ba rfl) (N:=["row","wish"]) rfl (yn [none,some 4] rfl (by decide +kernel) (by decide +kernel) rfl rfl) rfl (zr (pv 5)) (fun _ _ _ _=>(zK (i:=0) (show (["row","wish"]:List Str).Nodup by decide +kernel) rfl (by first | exact Bc rfl | exact Ba rfl))) (fun _ _ _ _=>aCq) (fun _ _ _ _=>(zU Gmf (hr.mono (by lia)) (zB (pv 0) (zB (pv 1) zE)))))
   (zF (zS (i:=7) sc_law.nd rfl (by first | exact Bc rfl | exact Ba rfl) (zU Grm (hr.mono (by lia)) (zB (pv 2) (zB (pv 3) (zB (pv 4) zE)))))
   (zF (qw (zc (aFM (hu60 hr)) (pv 7) (yT (N:=["row","count"]) rfl (yn [none,none] rfl (by decide +kernel) (by decide +kernel) rfl rfl) rfl (aFl B.zip (zB (pv 5) (zB (pv 6) zE))) (fun _ _ _ _=>(qA rfl (zP (zK (i:=0) (show (["row","count"]:List Str).Nodup by decide +kernel) rfl (by first | exact Bc rfl | exact Ba rfl)) (zP (zK (i:=1) (show (["row","count"]:List Str).Nodup by decide +kernel) rfl (by first | exact Bc rfl | exact Ba rfl)) yK)))) (fun _ _ _ _=>(qX (zc aK7 (pv 1) zM (zn _)))) (fun _ _ _ _=>(pv 0))) (zn _)) (zI (zV aA7)) yC)
   (zF (zS (i:=8) sc_law.nd rfl (by first | exact Bc rfl | exact Ba rfl) (yV zE))
   (zF (yH BD rfl (zr (aD4 rfl (zW aFB (pv 6) (yV (zB zM (zB zM zE)))) Bsorted Bset)) (zK (i:=9) sc_law.nd rfl (by first | exact Bc rfl | exact Ba rfl)) (zF (zS (i:=10) sc_law.nd rfl (by first | exact Bc rfl | exact Ba rfl) (zU Grw (hr.mono (by lia)) (zB (pv 2) (zB (pv 3) (zB (pv 4) (zB (pv 9) zE))))))
   (zF (qw (zc (aFM (hu60 hr)) (pv 10) (yT (N:=["row","count","forms"]) rfl (yn [none,none,some 9] rfl (by decide +kernel) (by decide +kernel) rfl rfl) rfl (aFl B.zip (zB (pv 5) (zB (pv 6) zE))) (fun _ _ _ _=>(qA rfl (zP (zK (i:=0) (show (["row","count","forms"]:List Str).Nodup by decide +kernel) rfl (by first | exact Bc rfl | exact Ba rfl)) (zP (zK (i:=1) (show (["row","count","forms"]:List Str).Nodup by decide +kernel) rfl (by first | exact Bc rfl | exact Ba rfl)) yK)))) (fun _ _ _ _=>(qX (zc aCn (pv 1) (pv 2) (zn _)))) (fun _ _ _ _=>(pv 0))) (zn _)) (zI (zV aA7)) yC)
   (zI (zS (i:=8) sc_law.nd rfl (by first | exact Bc rfl | exact Ba rfl) (zW aFB (pv 8) (pv 10)))))))
   (zF (zS (i:=11) sc_law.nd rfl (by first | exact Bc rfl | exact Ba rfl) (zW qB (zW qB (zY (aB6 rfl) rfl Bmax aFf (zB (pv 6) zE)) zM) (zU Gnum (hr.mono (by lia)) (zB (pv 0) (zB zM zE)))))
   (zF (qw (PW.pt (aLM (zc (aFM (hu60 hr)) (zY aEV rfl Bsorted yk (zB (pv 8) zE)) (pv 5) (zn _)) (aJz (zc (aBK (hu60 hr)) (zU Grw (hr.mono (by lia)) (zB (pv 2) (zB (pv 3) (zB (pv 4) (zB (zW qB (zY (aB6 rfl) rfl Bmax aFf (zB (pv 6) zE)) zM) zE))))) (yV zE) (zn _))))) (zI (zV aA7)) yC)
   (zF (qw (zc (aBK (hu60 hr)) (zU Grw (hr.mono (by lia)) (zB (pv 2) (zB (pv 3) (zB (pv 4) (zB (pv 11) zE))))) (yV zE) (zn _)) (zI (zV aA7)) yC)
   (zF (zS (i:=12) sc_law.nd rfl (by first | exact Bc rfl | exact Ba rfl) (zW qC (zU Gnum (hr.mono (by lia)) (zB (pv 0) (zB zM zE))) (zY zu rfl B.len aAv (zB (pv 5) zE))))
   (zI (zV (aBD aCn (aBD (aBK (hu60 hr)) (zU Gaf (hr.mono (by lia)) (zB (jk jl (pv 5) (pv 12) (fun _ _=>rfl)) (zB (pv 4) zE))) (yV zE) (zn _)) (aBD (aKr (hu60 hr)) (jk jl (pv 5) (pv 12) (fun _ _=>rfl)) (pv 7) rfl) (zn _)))))))))))))))))),?_⟩
 try dsimp only [Cx.nox,kx1,kx2,kx3,kx4,kx5,kx6,kx7,kx8,kx9,kxa,kxb,kxc]
 have szl:=Bb
 refine ⟨_,rfl,a,xs,0,rfl,hS,hl,by decide,by decide,fun nu H1 u0 u1 s1=>?_⟩
 refine ⟨(by show 3<=sizeLine; decide),fun p2 hp2=>?_⟩
 have s2:=Same.new (o:=.lst ([1,2,3].map V.int)) hp2
 obtain ⟨v1,hv1,hmem1⟩:=aBa (xs:=[1,2,3].map V.int) (r:=nu % 3) (Dx _ (by decide)) (CP _ (by decide))
 obtain ⟨m,hm,rfl⟩:=Bk.mp hmem1
 have hmb:m=1\/m=2\/m=3:=by simpa using hm
 refine ⟨_,rfl,_,_,rfl,rfl,(by show (0:Int) < _; decide),p2,_,_,_,rfl,rfl,SqL.of zC,hv1,?_⟩
 obtain ⟨kk,rfl⟩:∃ kk:Nat,m=kk:=⟨m.toNat,by lia⟩
 have hkb:kk=1\/kk=2\/kk=3:=by lia
 refine ⟨_,rfl,_,_,rfl,rfl,⟨by decide,by decide⟩,(by show 3<=sizeLine; decide),fun p3 hp3=>?_⟩
 have s3:=Same.new (o:=.lst ([9,9,3].map V.int)) hp3
 obtain ⟨d,hd,hdv⟩:∃ d:Int,((kk < 3/\d=9)\/(kk=3/\d=3))/\atI ([9,9,3].map V.int) ((kk:Int) - 1)=some (.int d):=by
  rcases hkb with rfl | rfl | rfl
  ·exact ⟨9,.inl ⟨by decide,rfl⟩,rfl⟩
  ·exact ⟨9,.inl ⟨by decide,rfl⟩,rfl⟩
  ·exact ⟨3,.inr ⟨rfl,rfl⟩,rfl⟩
 refine ⟨_,rfl,_,_,rfl,rfl,p3,_,_,_,rfl,rfl,SqL.of zC,hdv,_,_,rfl,rfl,(by show (0:Int) < d; lia),_,_,rfl,rfl,?_⟩
 have g0:0<=nu / 3 % d:=Dx _ (by lia)
 have g1:nu / 3 % d < d:=CP _ (by lia)
 obtain ⟨g,eg⟩:∃ g:Nat,1 + nu / 3 % d=(g:Int):=⟨(1 + nu / 3 % d).toNat,by lia⟩
 have hok:okKG kk g:=⟨by lia,by lia,by lia⟩
 dsimp only [aBC]
 rw [eg]
 have sA:=s1.trans (s2.trans s3)
 generalize upd (upd H1 p2 (.lst ([1,2,3].map V.int))) p3 (.lst ([9,9,3].map V.int))=H3 at sA ⊢
 refine ⟨_,rfl,a,xs,1,rfl,jc sA hS,hl,by decide,by decide,fun r2 H4 v0 v1 s4=>?_⟩
 refine ⟨(by show 4<=sizeLine; decide),fun p5 hp5=>?_⟩
 have s5:=Same.new (o:=.lst ([9,30,100,1000000].map V.int)) hp5
 have g5:(upd H4 p5 (.lst ([9,30,100,1000000].map V.int))) p5=some (.lst ([9,30,100,1000000].map V.int)):=zC
 refine ⟨_,rfl,a,xs,2,rfl,jc (sA.trans (s4.trans s5)) hS,hl,by decide,by decide,fun r3 H6 w0 w1 s6=>?_⟩
 obtain ⟨v8,hv8,hmem8⟩:=aBa (xs:=[9,30,100,1000000].map V.int) (r:=r3 % 4) (Dx _ (by decide)) (CP _ (by decide))
 obtain ⟨d8,hd8,rfl⟩:=Bk.mp hmem8
 have hd8b:9<=d8/\d8<=1000000:=by simp only [Aj,BF,or_false] at hd8; lia
 refine ⟨_,_,rfl,rfl,(by show (0:Int) < _; decide),p5,_,_,_,rfl,rfl,SqL.of (s6 _ _ g5),hv8,_,_,rfl,rfl,(by show (0:Int) < d8; lia),_,_,rfl,rfl,?_⟩
 obtain ⟨x,ex⟩:∃ x:Int,1 + r2 % d8=x:=⟨_,rfl⟩
 dsimp only [aBC]
 rw [ex]
 have sH6:=sA.trans (s4.trans (s5.trans s6))
 clear sA s1 s2 s3 s4 s5 s6 g5 hp2 hp3 hp5 hv8 hmem8 hv1 hmem1 hdv
 obtain ⟨few,ordR,gdR,few2R⟩:=aHy hok
 have hk4:kk < 4:=by lia
 have hg10:g < 10:=by obtain ⟨_,_,h⟩:=hok; lia
 obtain ⟨sz1,sz2⟩:=ya (g:=g) (k:=kk) hg10 hk4
 have hNr:∀ r∈zL (g:Int) kk,Nums r:=fun r hr=>qS hk4 (sz2 r hr)
 refine ⟨_,rfl,_,rfl,kk,g,rfl,hk4,hg10,fun pr yr H7 s7 n7 gr pyr=>?_⟩
 have yl:yr.length < 64:=by rw [pyr.length]; exact few
 refine ⟨_,rfl,pr,rfl,⟨_,SqL.of gr⟩,fun pc hpc C sx fp=>?_⟩
 refine qE (K:=K) (a:=pr) (xs:=yr) (tt:=fun _ H Q=>Q true H) (fun i zs σ H8=>∃ (o1:Option V),σ=[o1,some (.int x)]/\Same H7 H8/\zs=(((zL (g:Int) kk).take i).map (cntW x)).map V.int)
  (fun i zs σ H8 ⟨_,_,g,_⟩=>SqL.of (g _ _ gr)) ⟨none,rfl,Same.new hpc,rfl⟩ ?_ ?_
 ·rintro i v zs σ H8 hi hzl ⟨o1,rfl,s8,rfl⟩ g8
  obtain ⟨r,hx,hw⟩:=zq pyr hi
  obtain ⟨qx,rfl,gq⟩:=hw.kt (KT.same s8)
  have hil:=(Aq.mp hi).1
  have hrm:=Au hx
  refine ⟨_,rfl,_,rfl,qx,r,x,rfl,gq,hNr r hrm,gdR r hrm,fun H9 s9=>⟨_,s9 _ _ g8,by rw [szl]; lia,_,by rw [Ai]; exact CJ hzl,⟨_,rfl,zf (s8.trans s9) hpc,?_⟩,zC⟩⟩
  rw [zO hx,Bh,Bh]
  rfl
 rintro zs σ H8 ⟨o1,rfl,s8,rfl⟩ g8
 rw [pyr.length,AE] at g8
 have gr8:=s8 _ _ gr
 have pyr8:AH (RowV H8) yr (zL (g:Int) kk):=Paired.mapP pyr fun _ _ h=>h.kt (KT.same s8)
 have sH8:=sH6.trans (s7.trans s8)
 clear sH6 s7 s8 n7 gr pyr sx fp hpc
 refine ⟨_,rfl,_,rfl,_,rfl,kk,g,x,rfl,hk4,hg10,few2R,fun pm ym H9 s9 n9 gm pym=>?_⟩
 have gr9:=s9 _ _ gr8
 have gc9:=s9 _ _ g8
 have pyr9:AH (RowV H9) yr (zL (g:Int) kk):=Paired.mapP pyr8 fun _ _ h=>h.kt (KT.same s9)
 have sH9:=sH8.trans s9
 clear sH8 s9 gr8 g8 pyr8 n9
 have em:(zL (g:Int) kk).filter (metB x)=(zL (g:Int) kk).filter (fun r=>decide (cntW x r > 0)):=aH5 fun r hr=>aJs (hNr r hr)
 have clen:(zL (g:Int) kk).length=yr.length:=pyr9.length.symm
 have hgetc:∀ {i:Nat} {r:List Int} {y:V},(zL (g:Int) kk)[i]?=some r->(((zL (g:Int) kk).map (cntW x)).map V.int)[i]?=some y->y=.int (cntW x r):=fun {i r y} h1 h2=>by
  rw [AO,AO,h1] at h2
  simpa using h2.symm
 refine ⟨_,rfl,_,rfl,_,rfl,pr,pc,rfl,⟨_,SqL.of gr9⟩,⟨_,SqL.of gc9⟩,fun D hD C sx fp=>?_⟩
 refine aCY (K:=K) (p:=pr) (q:=pc) (xs:=yr) (ys:=((zL (g:Int) kk).map (cntW x)).map V.int) (fun i zs σ H3=>∃ (o1 o2:Option V),σ=[o1,o2]/\Same H9 H3/\AH (RowV H3) zs (((zL (g:Int) kk).take i).filter fun r=>decide (cntW x r > 0)))
  (fun i zs σ H3 ⟨_,_,_,g,_⟩=>⟨SqL.of (g _ _ gr9),SqL.of (g _ _ gc9)⟩) (by rw [Ah,Ah,clen]) ⟨none,none,rfl,Same.new hD,.nil⟩ ?_ ?_
 ·rintro i T v y zs σ H3 hi hy hzl ⟨o1,o2,rfl,s3,pz⟩ g3 hT
  obtain ⟨r,hx,hw⟩:=zq pyr9 hi
  have ey:=hgetc hx hy
  subst ey
  have hil:=(Aq.mp hi).1
  have sT:=Same.new (o:=.tup [v,V.int (cntW x r)]) hT
  have s3T:=s3.trans sT
  obtain ⟨qx,rfl,gq⟩:=hw.kt (KT.same s3T)
  have ef:=yt hx (fun r=>decide (cntW x r > 0))
  refine ⟨T,_,rfl,SqT.of zC,rfl,_,_,rfl,_,_,rfl,rfl,?_⟩
  refine ⟨_,rfl,_,_,rfl,rfl,_,rfl,?_⟩
  have g3T:=sT _ _ g3
  refine ite2 (fun c=>?_) (fun c=>?_)
  ·rw [if_pos c] at ef
   have kt7:=KT.upd (o:=.lst (zs++[.ref qx])) g3T
   refine ⟨_,rfl,zs,g3T,by rw [szl]; lia,zs++[.ref qx],by rw [Ai]; exact CJ hzl,⟨_,_,rfl,zf s3T hD,?_⟩,zC⟩
   rw [ef]
   exact yG (Paired.mapP pz fun _ _ h=>h.kt (KT.trans (KT.same sT) kt7)) ⟨qx,rfl,kt7 _ _ gq⟩
  ·rw [if_neg c,AM] at ef
   refine ⟨zs,DO hzl,⟨_,_,rfl,s3T,?_⟩,g3T⟩
   rw [ef]
   exact Paired.mapP pz fun _ _ h=>h.kt (KT.same sT)
 rintro zs σ HA ⟨o1,o2,rfl,sA,pz⟩ gA
 rw [<- clen,AE] at pz
 rw [em] at pym
 have pymA:AH (RowV HA) ym ((zL (g:Int) kk).filter (fun r=>decide (cntW x r > 0))):=Paired.mapP pym fun _ _ h=>h.kt (KT.same sA)
 refine ⟨_,_,.inl ⟨qM (sA _ _ gm) pymA,qM gA pz⟩,?_,_,rfl,?_⟩
 ·have:=jh ((zL (g:Int) kk).filter (fun r=>decide (cntW x r > 0))); lia
 rw [if_pos rfl,eqDs_refl]
 refine iteF (aHw ?_)
 have grA:=sA _ _ gr9
 have gcA:=sA _ _ gc9
 have gmA:=sA _ _ gm
 have pyrA:AH (RowV HA) yr (zL (g:Int) kk):=Paired.mapP pyr9 fun _ _ h=>h.kt (KT.same sA)
 have sHA:=sH9.trans sA
 clear sH9 sA gr9 gc9 gm pyr9 pym pz gA hD sx fp
 refine ⟨(by show 0<=sizeLine; decide),fun pt0 hpt0=>?_⟩
 have st0:=Same.new (o:=.lst []) hpt0
 refine ⟨_,rfl,(by show 2<=sizeLine; decide),fun p1 hp1=>?_⟩
 have sp1:=Same.new (o:=.lst [.int 0,.int 1]) hp1
 have sB:=st0.trans sp1
 have gt0:=sp1 _ _ (show (upd HA pt0 (.lst [])) pt0=some (.lst []) from zC)
 refine ⟨pc,p1,_,_,rfl,rfl,sB _ _ gcA,zC,by rw [Ah,Ah,clen,szl]; show yr.length + 2<=_; lia,fun p2 hp2=>?_⟩
 have sp2:=Same.new (o:=.lst (((zL (g:Int) kk).map (cntW x)).map V.int++[.int 0,.int 1])) hp2
 have sC:=sB.trans sp2
 have gt1:=sp2 _ _ gt0
 refine ⟨p2,(zL (g:Int) kk).map (cntW x)++[0,1],rfl,by rw [Bh]; exact zC,by rw [Ai,Ah,clen]; exact DZ (show yr.length + 2<=47 from Nat.add_le_add_right (clen ▸ aM7 hok) 2) (by decide),fun ps ms HB sB2 gs msr mmem=>?_⟩
 have sAB:=sC.trans sB2
 have gtB:=sB2 _ _ gt1
 have grB:=sAB _ _ grA
 have gcB:=sAB _ _ gcA
 have gmB:=sAB _ _ gmA
 have pyrB:AH (RowV HB) yr (zL (g:Int) kk):=Paired.mapP pyrA fun _ _ h=>h.kt (KT.same sAB)
 have pymB:AH (RowV HB) ym ((zL (g:Int) kk).filter (fun r=>decide (cntW x r > 0))):=Paired.mapP pymA fun _ _ h=>h.kt (KT.same sAB)
 have sHB:=sHA.trans sAB
 have msnd:ms.Nodup:=aA6 msr
 have mall:∀ r∈zL (g:Int) kk,cntW x r∈ms:=fun r hr=>(mmem _).mpr (Bj.mpr (.inl (Bk.mpr ⟨r,hr,rfl⟩)))
 have pp:=aCh (cntW x) ms (zL (g:Int) kk) msnd mall
 clear sHA sAB sB2 sC sB sp1 sp2 st0 gt0 gt1 grA gcA gmA pyrA pymA hp1 hp2 hpt0
 refine ⟨ps,rfl,⟨_,SqL.of gs⟩,qN (K:=K) (a:=ps) (xs:=ms.map V.int) (fun i σ H'=>∃ (z9 z10:Option V) (pt:Addr) (ts:List V),σ=[some (.ref a),some (.int nu),some (.int (kk:Int)),some (.int (g:Int)),some (.int x),some (.ref pr),some (.ref pc),some (.ref pm),some (.ref pt),z9,z10,none,none]/\Same HB H'/\H' pt=some (.lst ts)/\AH (RowV H') ts ((ms.take i).flatMap fun m=>(zL (g:Int) kk).filter fun r=>decide (cntW x r=m)))
  ⟨none,none,pt0,[],rfl,Same.refl _,gtB,.nil⟩ (fun i σ H' _ ⟨_,_,_,_,_,k,_⟩=>SqL.of (k _ _ gs)) ?_ ?_⟩
 ·rintro i v σ HC hi ⟨z9,z10,pt,ts,rfl,sC,gtC,ptC⟩
  obtain ⟨m,hm,rfl⟩:=jH hi
  have grC:=sC _ _ grB
  have gcC:=sC _ _ gcB
  have pyrC:AH (RowV HC) yr (zL (g:Int) kk):=Paired.mapP pyrB fun _ _ h=>h.kt (KT.same sC)
  refine ⟨_,rfl,_,rfl,_,rfl,_,rfl,kk,g,x,m,rfl,hk4,hg10,gdR,fun p11 y11 HD sD n11 g11 py11=>?_⟩
  have grD:=sD _ _ grC
  have gcD:=sD _ _ gcC
  have pyrD:AH (RowV HD) yr (zL (g:Int) kk):=Paired.mapP pyrC fun _ _ h=>h.kt (KT.same sD)
  refine ⟨_,rfl,_,rfl,_,rfl,pr,pc,rfl,⟨_,SqL.of grD⟩,⟨_,SqL.of gcD⟩,fun D hD C sx fp=>?_⟩
  refine aCY (K:=K) (p:=pr) (q:=pc) (xs:=yr) (ys:=((zL (g:Int) kk).map (cntW x)).map V.int) (fun i zs σ H3=>∃ (o1 o2:Option V),σ=[o1,o2,some (.int m)]/\Same HD H3/\AH (RowV H3) zs (((zL (g:Int) kk).take i).filter fun r=>decide (cntW x r=m)))
   (fun i zs σ H3 ⟨_,_,_,g,_⟩=>⟨SqL.of (g _ _ grD),SqL.of (g _ _ gcD)⟩) (by rw [Ah,Ah,clen]) ⟨none,none,rfl,Same.new hD,.nil⟩ ?_ ?_
  ·rintro i T v y zs σ H3 hi hy hzl ⟨o1,o2,rfl,s3,pz⟩ g3 hT
   obtain ⟨r,hx,hw⟩:=zq pyrD hi
   have ey:=hgetc hx hy
   subst ey
   have hil:=(Aq.mp hi).1
   have sT:=Same.new (o:=.tup [v,V.int (cntW x r)]) hT
   have s3T:=s3.trans sT
   obtain ⟨qx,rfl,gq⟩:=hw.kt (KT.same s3T)
   have ef:=yt hx (fun r=>decide (cntW x r=m))
   refine ⟨T,_,rfl,SqT.of zC,rfl,_,_,rfl,_,_,rfl,rfl,?_⟩
   refine ⟨_,rfl,_,rfl,rfl,_,rfl,?_⟩
   have g3T:=sT _ _ g3
   have e2:decide (V.int (cntW x r)=V.int m)=decide (cntW x r=m):=decide_eq_decide.mpr ⟨fun z=>V.int.inj z,fun z=>by rw [z]⟩
   rw [e2]
   refine ite2 (fun c=>?_) (fun c=>?_)
   ·rw [if_pos c] at ef
    have kt7:=KT.upd (o:=.lst (zs++[.ref qx])) g3T
    refine ⟨_,rfl,zs,g3T,by rw [szl]; lia,zs++[.ref qx],by rw [Ai]; exact CJ hzl,⟨_,_,rfl,zf s3T hD,?_⟩,zC⟩
    rw [ef]
    exact yG (Paired.mapP pz fun _ _ h=>h.kt (KT.trans (KT.same sT) kt7)) ⟨qx,rfl,kt7 _ _ gq⟩
   ·rw [if_neg c,AM] at ef
    refine ⟨zs,DO hzl,⟨_,_,rfl,s3T,?_⟩,g3T⟩
    rw [ef]
    exact Paired.mapP pz fun _ _ h=>h.kt (KT.same sT)
  rintro zs σ HE ⟨o1,o2,rfl,sE,pz⟩ gE
  rw [<- clen,AE] at pz
  have pyE:AH (RowV HE) y11 ((zL (g:Int) kk).filter fun r=>decide (cntW x r=m)):=Paired.mapP py11 fun _ _ h=>h.kt (KT.same sE)
  have g11E:=sE _ _ g11
  refine ⟨_,_,.inl ⟨qM g11E pyE,qM gE pz⟩,?_,_,rfl,?_⟩
  ·have:=jh ((zL (g:Int) kk).filter fun r=>decide (cntW x r=m)); lia
  rw [if_pos rfl,eqDs_refl]
  refine iteF (aHw ?_)
  have sDE:=sD.trans sE
  have gtE:=sDE _ _ gtC
  have ptE:AH (RowV HE) ts ((ms.take i).flatMap fun m=>(zL (g:Int) kk).filter fun r=>decide (cntW x r=m)):=Paired.mapP ptC fun _ _ h=>h.kt (KT.same sDE)
  have lts:ts.length < 64:=by
   rw [ptE.length]
   have h1:=aH1 ms i (fun m=>(zL (g:Int) kk).filter fun r=>decide (cntW x r=m))
   have h2:=pp.length_eq
   lia
  have l11:y11.length < 64:=by
   rw [pyE.length]
   have:=Gr (fun r=>decide (cntW x r=m)) (zL (g:Int) kk)
   lia
  refine ⟨_,rfl,_,rfl,pt,p11,_,_,rfl,rfl,gtE,g11E,by rw [szl]; lia,fun p12 hp12=>?_⟩
  have s12:=Same.new (o:=.lst (ts++y11)) hp12
  refine ⟨_,_,p12,ts++y11,rfl,sC.trans (sDE.trans s12),zC,?_⟩
  rw [zO hm,BP,Bm,EC,AM]
  exact aAy (Paired.mapP ptE fun _ _ h=>h.kt (KT.same s12)) (Paired.mapP pyE fun _ _ h=>h.kt (KT.same s12))
 rintro σ HC ⟨z9,z10,pt,ts,rfl,sC,gtC,ptC⟩
 rw [Ah,AE] at ptC
 have grC:=sC _ _ grB
 have gcC:=sC _ _ gcB
 have gmC:=sC _ _ gmB
 have pyrC:AH (RowV HC) yr (zL (g:Int) kk):=Paired.mapP pyrB fun _ _ h=>h.kt (KT.same sC)
 have pymC:AH (RowV HC) ym ((zL (g:Int) kk).filter (fun r=>decide (cntW x r > 0))):=Paired.mapP pymB fun _ _ h=>h.kt (KT.same sC)
 have sHC:=sHB.trans sC
 clear sHB sC grB gcB gmB gtB gs pyrB pymB
 have cl0:0 < ((zL (g:Int) kk).map (cntW x)).length:=by
  rw [Ah]
  obtain ⟨_,g1,_⟩:=hok
  exact FX (aHz g1 hkb hg10)
 refine ⟨_,rfl,pc,_,rfl,SqL.of gcC,cl0,fun mx hmx hle=>?_⟩
 refine ⟨_,_,rfl,rfl,_,rfl,a,xs,4,rfl,jc sHC hS,hl,by decide,by decide,fun r4 HD q0 q1 sD=>⟨_,_,rfl,rfl,?_⟩⟩
 have grD:=sD _ _ grC
 have gcD:=sD _ _ gcC
 have gmD:=sD _ _ gmC
 have gtD:=sD _ _ gtC
 have pyrD:AH (RowV HD) yr (zL (g:Int) kk):=Paired.mapP pyrC fun _ _ h=>h.kt (KT.same sD)
 have pymD:AH (RowV HD) ym ((zL (g:Int) kk).filter (fun r=>decide (cntW x r > 0))):=Paired.mapP pymC fun _ _ h=>h.kt (KT.same sD)
 have ptD:AH (RowV HD) ts (ms.flatMap fun m=>(zL (g:Int) kk).filter fun r=>decide (cntW x r=m)):=Paired.mapP ptC fun _ _ h=>h.kt (KT.same sD)
 have sHD:=sHC.trans sD
 clear sHC sD grC gcC gmC gtC pyrC pymC ptC
 have none_of:∀ m:Int,mx < m->(zL (g:Int) kk).filter (fun r=>decide (cntW x r=m))=[]:=fun m hm=>by
  rw [Jd]
  intro r hr z
  have e1:cntW x r=m:=of_decide_eq_true z
  have:=hle (cntW x r) (Bk.mpr ⟨r,hr,rfl⟩)
  lia
 have lts:ts.length < 64:=by rw [ptD.length,pp.length_eq]; exact few
 have hkey:∀ v∈ts,keyR HD v≠[]/\∃ t,v=.ref t/\HD t=some (.tup ((keyR HD v).map V.int)):=fun v hv=>by
  obtain ⟨j,hj⟩:=CM hv
  obtain ⟨r,hr,q,rfl,gq⟩:=jX ptD hj
  have e1:keyR HD (.ref q)=r:=jv ⟨q,rfl,.inl gq⟩
  have hrm:=pp.mem_iff.mp (Au hr)
  rw [e1]
  refine ⟨fun z=>?_,q,rfl,gq⟩
  have:=(sz2 r hrm).1
  rw [z] at this
  simp at this
  lia
 refine ⟨_,rfl,pt,ts,keyR HD,rfl,gtD,lts,hkey,fun ps2 ys HE sE gsE perm ord=>?_⟩
 obtain ⟨es,pe1,pe2⟩:=aDH perm ptD
 have ordE:es.Pairwise (fun a b=>lx b a=false):=by
  have:∀ {l:List V} {m:List (List Int)},AH (RowV HD) l m->l.Pairwise (fun a b=>lx (keyR HD b) (keyR HD a)=false)->m.Pairwise (fun a b=>lx b a=false):=by
   intro l m h
   induction h with
   | nil=>intro _; exact BJ
   | @cons y kv l' m' h t ih =>
    intro o
    obtain ⟨o1,o2⟩:=AG.mp o
    refine AG.mpr ⟨fun b hb=>?_,ih o2⟩
    obtain ⟨j,hj⟩:=CM hb
    obtain ⟨y',hy',q',rfl,g'⟩:=aDF t hj
    obtain ⟨q0,rfl,g0⟩:=h
    have:=o1 _ (Au hy')
    rw [jv ⟨q',rfl,.inl g'⟩,jv ⟨q0,rfl,.inl g0⟩] at this
    exact this
  exact this pe2 ord
 have ees:es=zL (g:Int) kk:=aCg (pe1.trans pp) ordE ordR
 subst ees
 have peE:AH (RowV HE) ys (zL (g:Int) kk):=Paired.mapP pe2 fun _ _ h=>h.kt (KT.same sE)
 have pyrE:AH (RowV HE) yr (zL (g:Int) kk):=Paired.mapP pyrD fun _ _ h=>h.kt (KT.same sE)
 refine ⟨_,rfl,_,_,.inl ⟨qM gsE peE,qM (sE _ _ grD) pyrE⟩,?_,_,rfl,?_⟩
 ·have:=jh (zL (g:Int) kk); lia
 rw [if_pos rfl,eqDs_refl]
 refine iteF ?_
 refine ⟨_,rfl,_,rfl,_,rfl,_,rfl,pc,_,rfl,SqL.of (sE _ _ gcD),cl0,fun mx2 hmx2 hle2=>?_⟩
 have emx:mx2=mx:=Mq (hle _ hmx2) (hle2 _ hmx)
 subst emx
 refine ⟨_,_,rfl,rfl,kk,g,x,mx2 + 1,rfl,hk4,hg10,gdR,fun p11 y11 HF sF n11 g11 py11=>?_⟩
 rw [none_of _ (by lia)] at py11
 cases py11
 refine ⟨(by show 0<=sizeLine; decide),fun p13 hp13=>?_⟩
 have s13:=Same.new (o:=.lst []) hp13
 refine ⟨p11,p13,[],rfl,rfl,SqL.of (s13 _ _ g11),SqL.of zC,_,rfl,iteF (aHw ?_)⟩
 have sDG:=sE.trans (sF.trans s13)
 have sHG:=sHD.trans sDG
 have grG:=sDG _ _ grD
 have gmG:=sDG _ _ gmD
 have pyrG:AH (RowV (upd HF p13 (.lst []))) yr (zL (g:Int) kk):=Paired.mapP pyrD fun _ _ h=>h.kt (KT.same sDG)
 have pymG:AH (RowV (upd HF p13 (.lst []))) ym ((zL (g:Int) kk).filter (fun r=>decide (cntW x r > 0))):=Paired.mapP pymD fun _ _ h=>h.kt (KT.same sDG)
 generalize upd HF p13 (.lst [])=HG at sHG grG gmG pyrG pymG ⊢
 clear sDG sE sF s13 hp13 g11 gsE peE pyrE pe1 pe2 perm ord sHD grD gcD gmD gtD pyrD pymD ptD hkey
 refine ⟨_,rfl,_,rfl,_,rfl,_,rfl,kk,g,x,_,rfl,hk4,hg10,gdR,fun p11 y11 HI sI n11 g11 py11=>?_⟩
 rw [none_of _ (by lia)] at py11
 cases py11
 refine ⟨(by show 0<=sizeLine; decide),fun p13 hp13=>?_⟩
 have s13:=Same.new (o:=.lst []) hp13
 refine ⟨p11,p13,[],rfl,rfl,SqL.of (s13 _ _ g11),SqL.of zC,_,rfl,iteF (aHw ?_)⟩
 have sGJ:=sI.trans s13
 have sHJ:=sHG.trans sGJ
 have grJ:=sGJ _ _ grG
 have gmJ:=sGJ _ _ gmG
 have pyrJ:AH (RowV (upd HI p13 (.lst []))) yr (zL (g:Int) kk):=Paired.mapP pyrG fun _ _ h=>h.kt (KT.same sGJ)
 have pymJ:AH (RowV (upd HI p13 (.lst []))) ym ((zL (g:Int) kk).filter (fun r=>decide (cntW x r > 0))):=Paired.mapP pymG fun _ _ h=>h.kt (KT.same sGJ)
 generalize upd HI p13 (.lst [])=HJ at sHJ grJ gmJ pyrJ pymJ ⊢
 clear sGJ sI s13 hp13 g11 sHG grG gmG pyrG pymG
 have ylp:0 < yr.length:=by rw [<- clen]; rw [Ah] at cl0; exact cl0
 refine ⟨_,rfl,a,xs,3,rfl,jc sHJ hS,hl,by decide,by decide,fun r5 HK t0 t1 sK=>?_⟩
 have grK:=sK _ _ grJ
 have gmK:=sK _ _ gmJ
 have pyrK:AH (RowV HK) yr (zL (g:Int) kk):=Paired.mapP pyrJ fun _ _ h=>h.kt (KT.same sK)
 have pymK:AH (RowV HK) ym ((zL (g:Int) kk).filter (fun r=>decide (cntW x r > 0))):=Paired.mapP pymJ fun _ _ h=>h.kt (KT.same sK)
 refine ⟨_,rfl,pr,_,rfl,.inl (SqL.of grK),_,_,rfl,rfl,(by show (0:Int) < (yr.length:Int); lia),?_⟩
 obtain ⟨va,hva,hmema⟩:=aBa (xs:=yr) (r:=r5 % (yr.length:Int)) (Dx _ (by lia)) (CP _ (by lia))
 obtain ⟨ja,hja⟩:=CM hmema
 obtain ⟨r,hrr,qr,rfl,gqr⟩:=jX pyrK hja
 have hrm:=Au hrr
 refine ⟨_,rfl,_,rfl,pr,_,_,_,rfl,rfl,SqL.of grK,hva,_,rfl,qr,r,x,rfl,gqr,hNr r hrm,gdR r hrm,fun pw ws l HL sL npw gw pl prw _=>?_⟩
 refine ⟨(by show 0<=sizeLine; decide),fun p14 hp14=>?_⟩
 have s14:=Same.new (o:=.lst []) hp14
 refine ⟨pw,p14,ws,rfl,rfl,SqL.of (s14 _ _ gw),SqL.of zC,?_⟩
 have sKM:=sL.trans s14
 have grM:=sKM _ _ grK
 have gmM:=sKM _ _ gmK
 have gqM:=sKM _ _ gqr
 have pymM:AH (RowV (upd HL p14 (.lst []))) ym ((zL (g:Int) kk).filter (fun r=>decide (cntW x r > 0))):=Paired.mapP pymK fun _ _ h=>h.kt (KT.same sKM)
 generalize upd HL p14 (.lst [])=HM at grM gmM gqM pymM ⊢
 refine ⟨_,rfl,_,rfl,pr,_,_,_,rfl,rfl,SqL.of grM,hva,_,rfl,pm,ym,r,_,rfl,gmM,⟨qr,rfl,gqM⟩,pymM,rfl,?_⟩
 have hlen:ws.length=(allW r x).length:=by rw [prw.length,pl.length_eq]
 have eb:(!ws.isEmpty)=decide (r∈(zL (g:Int) kk).filter (fun r=>decide (cntW x r > 0))):=by
  have h1:(r∈(zL (g:Int) kk).filter (fun r=>decide (cntW x r > 0)))↔cntW x r > 0:=by
   rw [Bi]
   exact ⟨fun h=>of_decide_eq_true h.2,fun h=>⟨hrm,decide_eq_true h⟩⟩
  rw [decide_eq_decide.mpr h1]
  have h2:cntW x r=(ws.length:Int):=by unfold cntW; rw [hlen]
  cases ws with
  | nil=>exact (decide_eq_false (by rw [h2]; decide)).symm
  | cons y t=>exact (decide_eq_true (by rw [h2,AJ]; lia)).symm
 rw [eb,decide_eq_true (rfl:V.bl (decide (r∈(zL (g:Int) kk).filter (fun r=>decide (cntW x r > 0))))=_)]
 exact q _
end
noncomputable def aM8 (a b c d:Addr) (wd:Str):Addr:=if wd="plus" then a else if wd="less" then b else if wd="times" then c else d
theorem all_mk {l:Jl} {w:AV} {K:Af} {h:Heap} {mg:Str->Option Value} {fa:Addr} (X:K.In h) (G:h.Ns Az mg) (hfa:mg "law"=some (.ref fa))
  {f_choices_of:Addr} {od_choices_of an_choices_of:Option Addr} {sl_choices_of:Array (Option Value)} {oc_choices_of kV_choices_of dc_choices_of pm_choices_of cd_choices_of ct_choices_of:Value}
  {f_splits_of:Addr} {od_splits_of an_splits_of:Option Addr} {sl_splits_of:Array (Option Value)} {oc_splits_of kV_splits_of dc_splits_of pm_splits_of cd_splits_of ct_splits_of:Value}
  {f_plus:Addr} {od_plus an_plus:Option Addr} {sl_plus:Array (Option Value)} {oc_plus kV_plus dc_plus pm_plus cd_plus ct_plus:Value}
  {f_less:Addr} {od_less an_less:Option Addr} {sl_less:Array (Option Value)} {oc_less kV_less dc_less pm_less cd_less ct_less:Value}
  {f_times:Addr} {od_times an_times:Option Addr} {sl_times:Array (Option Value)} {oc_times kV_times dc_times pm_times cd_times ct_times:Value}
  {f_share:Addr} {od_share an_share:Option Addr} {sl_share:Array (Option Value)} {oc_share kV_share dc_share pm_share cd_share ct_share:Value}
  {f_worth_by:Addr} {od_worth_by an_worth_by:Option Addr} {sl_worth_by:Array (Option Value)} {oc_worth_by kV_worth_by dc_worth_by pm_worth_by cd_worth_by ct_worth_by:Value}
  {f_deeds_between:Addr} {od_deeds_between an_deeds_between:Option Addr} {sl_deeds_between:Array (Option Value)} {oc_deeds_between kV_deeds_between dc_deeds_between pm_deeds_between cd_deeds_between ct_deeds_between:Value}
  {f_chosen_of:Addr} {od_chosen_of an_chosen_of:Option Addr} {sl_chosen_of:Array (Option Value)} {oc_chosen_of kV_chosen_of dc_chosen_of pm_chosen_of cd_chosen_of ct_chosen_of:Value}
  {f_table_of:Addr} {od_table_of an_table_of:Option Addr} {sl_table_of:Array (Option Value)} {oc_table_of kV_table_of dc_table_of pm_table_of cd_table_of ct_table_of:Value}
  {f_row_for:Addr} {od_row_for an_row_for:Option Addr} {sl_row_for:Array (Option Value)} {oc_row_for kV_row_for dc_row_for pm_row_for cd_row_for ct_row_for:Value}
  {f_law_number:Addr} {od_law_number an_law_number:Option Addr} {sl_law_number:Array (Option Value)} {oc_law_number kV_law_number dc_law_number pm_law_number cd_law_number ct_law_number:Value}
  {f_joined:Addr} {od_joined an_joined:Option Addr} {sl_joined:Array (Option Value)} {oc_joined kV_joined dc_joined pm_joined cd_joined ct_joined:Value}
  {f_parts_for:Addr} {od_parts_for an_parts_for:Option Addr} {sl_parts_for:Array (Option Value)} {oc_parts_for kV_parts_for dc_parts_for pm_parts_for cd_parts_for ct_parts_for:Value}
  {f_is_of:Addr} {od_is_of an_is_of:Option Addr} {sl_is_of:Array (Option Value)} {oc_is_of kV_is_of dc_is_of pm_is_of cd_is_of ct_is_of:Value}
  {f_in_order:Addr} {od_in_order an_in_order:Option Addr} {sl_in_order:Array (Option Value)} {oc_in_order kV_in_order dc_in_order pm_in_order cd_in_order ct_in_order:Value}
  {f_order_of:Addr} {od_order_of an_order_of:Option Addr} {sl_order_of:Array (Option Value)} {oc_order_of kV_order_of dc_order_of pm_order_of cd_order_of ct_order_of:Value}
  {f_forms_by:Addr} {od_forms_by an_forms_by:Option Addr} {sl_forms_by:Array (Option Value)} {oc_forms_by kV_forms_by dc_forms_by pm_forms_by cd_forms_by ct_forms_by:Value}
  {f_joined_by:Addr} {od_joined_by an_joined_by:Option Addr} {sl_joined_by:Array (Option Value)} {oc_joined_by kV_joined_by dc_joined_by pm_joined_by cd_joined_by ct_joined_by:Value}
  {f_all_forms:Addr} {od_all_forms an_all_forms:Option Addr} {sl_all_forms:Array (Option Value)} {oc_all_forms kV_all_forms dc_all_forms pm_all_forms cd_all_forms ct_all_forms:Value}
  {f_many_forms:Addr} {od_many_forms an_many_forms:Option Addr} {sl_many_forms:Array (Option Value)} {oc_many_forms kV_many_forms dc_many_forms pm_many_forms cd_many_forms ct_many_forms:Value}
  {f_met_at_all:Addr} {od_met_at_all an_met_at_all:Option Addr} {sl_met_at_all:Array (Option Value)} {oc_met_at_all kV_met_at_all dc_met_at_all pm_met_at_all cd_met_at_all ct_met_at_all:Value}
  {f_rows_of:Addr} {od_rows_of an_rows_of:Option Addr} {sl_rows_of:Array (Option Value)} {oc_rows_of kV_rows_of dc_rows_of pm_rows_of cd_rows_of ct_rows_of:Value}
  {f_rows_that_meet:Addr} {od_rows_that_meet an_rows_that_meet:Option Addr} {sl_rows_that_meet:Array (Option Value)} {oc_rows_that_meet kV_rows_that_meet dc_rows_that_meet pm_rows_that_meet cd_rows_that_meet ct_rows_that_meet:Value}
  {f_rows_with:Addr} {od_rows_with an_rows_with:Option Addr} {sl_rows_with:Array (Option Value)} {oc_rows_with kV_rows_with dc_rows_with pm_rows_with cd_rows_with ct_rows_with:Value}
  {f_law_all_rows:Addr} {od_law_all_rows an_law_all_rows:Option Addr} {sl_law_all_rows:Array (Option Value)} {oc_law_all_rows kV_law_all_rows dc_law_all_rows pm_law_all_rows cd_law_all_rows ct_law_all_rows:Value}
  {f_law:Addr} {od_law an_law:Option Addr} {sl_law:Array (Option Value)} {oc_law kV_law dc_law pm_law cd_law ct_law:Value}
  {d_KINDS:Addr} {es_KINDS:Array Cs} {n_KINDS:Nat}
  {d_RANKS:Addr} {es_RANKS:Array Cs} {n_RANKS:Nat}
  {d_DEEDS:Addr} {es_DEEDS:Array Cs} {n_DEEDS:Nat}
  {C_WishError N_WishError:Addr} {nm_WishError qn_WishError:Str} {bs_WishError sub_WishError:List Value} {sn_WishError:List Str} {ab_WishError:Bool} {col_WishError:Option Bool} {dd_WishError:Option Addr} {k0_WishError k1_WishError k2_WishError k3_WishError k5_WishError:Option Value}
  {C_NoWay N_NoWay:Addr} {nm_NoWay qn_NoWay:Str} {bs_NoWay sub_NoWay:List Value} {sn_NoWay:List Str} {ab_NoWay:Bool} {col_NoWay:Option Bool} {dd_NoWay:Option Addr} {k0_NoWay k1_NoWay k2_NoWay k3_NoWay k5_NoWay:Option Value} {bm_NoWay:List Value}
  {f_init:Addr}
  {od_init an_init:Option Addr} {sl_init:Array (Option Value)} {oc_init kV_init dc_init pm_init cd_init ct_init:Value}
  {t_k1 t_k2 t_k3 t_k4 t_r1 t_r2:Tok}
  {t_T:Addr} {tt1 tt2:Tok} {ns_T:Nat} {od_T:Option Addr} {sl_T:Array (Option Value)}
  (a_choices_of:As K Az "choices_of"=some (some (.ref f_choices_of))) (l_choices_of:K.lookup f_choices_of=some ⟨oc_choices_of,od_choices_of,.func (AZ "choices_of" "choices_of" (zR zx) (zQ zx) (zG zx) .none kV_choices_of dc_choices_of pm_choices_of an_choices_of cd_choices_of ct_choices_of),sl_choices_of⟩) (c_choices_of:AR K cd_choices_of "choices_of"=true) (k_choices_of:AI K (.ref f_choices_of)=true)
  (a_splits_of:As K Az "splits_of"=some (some (.ref f_splits_of))) (l_splits_of:K.lookup f_splits_of=some ⟨oc_splits_of,od_splits_of,.func (AZ "splits_of" "splits_of" (zR yL) (zQ yL) (zG yL) .none kV_splits_of dc_splits_of pm_splits_of an_splits_of cd_splits_of ct_splits_of),sl_splits_of⟩) (c_splits_of:AR K cd_splits_of "splits_of"=true) (k_splits_of:AI K (.ref f_splits_of)=true)
  (a_plus:As K Az "plus"=some (some (.ref f_plus))) (l_plus:K.lookup f_plus=some ⟨oc_plus,od_plus,.func (AZ "plus" "plus" (zR aBA) (zQ aBA) (zG aBA) .none kV_plus dc_plus pm_plus an_plus cd_plus ct_plus),sl_plus⟩) (c_plus:AR K cd_plus "plus"=true) (k_plus:AI K (.ref f_plus)=true)
  (a_less:As K Az "less"=some (some (.ref f_less))) (l_less:K.lookup f_less=some ⟨oc_less,od_less,.func (AZ "less" "less" (zR aBB) (zQ aBB) (zG aBB) .none kV_less dc_less pm_less an_less cd_less ct_less),sl_less⟩) (c_less:AR K cd_less "less"=true) (k_less:AI K (.ref f_less)=true)
  (a_times:As K Az "times"=some (some (.ref f_times))) (l_times:K.lookup f_times=some ⟨oc_times,od_times,.func (AZ "times" "times" (zR jx) (zQ jx) (zG jx) .none kV_times dc_times pm_times an_times cd_times ct_times),sl_times⟩) (c_times:AR K cd_times "times"=true) (k_times:AI K (.ref f_times)=true)
  (a_share:As K Az "share"=some (some (.ref f_share))) (l_share:K.lookup f_share=some ⟨oc_share,od_share,.func (AZ "share" "share" (zR jy) (zQ jy) (zG jy) .none kV_share dc_share pm_share an_share cd_share ct_share),sl_share⟩) (c_share:AR K cd_share "share"=true) (k_share:AI K (.ref f_share)=true)
  (a_worth_by:As K Az "worth_by"=some (some (.ref f_worth_by))) (l_worth_by:K.lookup f_worth_by=some ⟨oc_worth_by,od_worth_by,.func (AZ "worth_by" "worth_by" (zR yf) (zQ yf) (zG yf) .none kV_worth_by dc_worth_by pm_worth_by an_worth_by cd_worth_by ct_worth_by),sl_worth_by⟩) (c_worth_by:AR K cd_worth_by "worth_by"=true) (k_worth_by:AI K (.ref f_worth_by)=true)
  (a_deeds_between:As K Az "deeds_between"=some (some (.ref f_deeds_between))) (l_deeds_between:K.lookup f_deeds_between=some ⟨oc_deeds_between,od_deeds_between,.func (AZ "deeds_between" "deeds_between" (zR zh) (zQ zh) (zG zh) .none kV_deeds_between dc_deeds_between pm_deeds_between an_deeds_between cd_deeds_between ct_deeds_between),sl_deeds_between⟩) (c_deeds_between:AR K cd_deeds_between "deeds_between"=true) (k_deeds_between:AI K (.ref f_deeds_between)=true)
  (a_chosen_of:As K Az "chosen_of"=some (some (.ref f_chosen_of))) (l_chosen_of:K.lookup f_chosen_of=some ⟨oc_chosen_of,od_chosen_of,.func (AZ "chosen_of" "chosen_of" (zR yM) (zQ yM) (zG yM) .none kV_chosen_of dc_chosen_of pm_chosen_of an_chosen_of cd_chosen_of ct_chosen_of),sl_chosen_of⟩) (c_chosen_of:AR K cd_chosen_of "chosen_of"=true) (k_chosen_of:AI K (.ref f_chosen_of)=true)
  (a_table_of:As K Az "table_of"=some (some (.ref f_table_of))) (l_table_of:K.lookup f_table_of=some ⟨oc_table_of,od_table_of,.func (AZ "table_of" "table_of" (zR yg) (zQ yg) (zG yg) .none kV_table_of dc_table_of pm_table_of an_table_of cd_table_of ct_table_of),sl_table_of⟩) (c_table_of:AR K cd_table_of "table_of"=true) (k_table_of:AI K (.ref f_table_of)=true)
  (a_row_for:As K Az "row_for"=some (some (.ref f_row_for))) (l_row_for:K.lookup f_row_for=some ⟨oc_row_for,od_row_for,.func (AZ "row_for" "row_for" (zR qK) (zQ qK) (zG qK) .none kV_row_for dc_row_for pm_row_for an_row_for cd_row_for ct_row_for),sl_row_for⟩) (c_row_for:AR K cd_row_for "row_for"=true) (k_row_for:AI K (.ref f_row_for)=true)
  (a_law_number:As K Az "_law_number"=some (some (.ref f_law_number))) (l_law_number:K.lookup f_law_number=some ⟨oc_law_number,od_law_number,.func (AZ "_law_number" "_law_number" (zR yA) (zQ yA) (zG yA) .none kV_law_number dc_law_number pm_law_number an_law_number cd_law_number ct_law_number),sl_law_number⟩) (c_law_number:AR K cd_law_number "_law_number"=true) (k_law_number:AI K (.ref f_law_number)=true)
  (a_joined:As K Az "joined"=some (some (.ref f_joined))) (l_joined:K.lookup f_joined=some ⟨oc_joined,od_joined,.func (AZ "joined" "joined" (zR qq) (zQ qq) (zG qq) .none kV_joined dc_joined pm_joined an_joined cd_joined ct_joined),sl_joined⟩) (c_joined:AR K cd_joined "joined"=true) (k_joined:AI K (.ref f_joined)=true)
  (a_parts_for:As K Az "parts_for"=some (some (.ref f_parts_for))) (l_parts_for:K.lookup f_parts_for=some ⟨oc_parts_for,od_parts_for,.func (AZ "parts_for" "parts_for" (zR yN) (zQ yN) (zG yN) .none kV_parts_for dc_parts_for pm_parts_for an_parts_for cd_parts_for ct_parts_for),sl_parts_for⟩) (c_parts_for:AR K cd_parts_for "parts_for"=true) (k_parts_for:AI K (.ref f_parts_for)=true)
  (a_is_of:As K Az "is_of"=some (some (.ref f_is_of))) (l_is_of:K.lookup f_is_of=some ⟨oc_is_of,od_is_of,.func (AZ "is_of" "is_of" (zR jz) (zQ jz) (zG jz) .none kV_is_of dc_is_of pm_is_of an_is_of cd_is_of ct_is_of),sl_is_of⟩) (c_is_of:AR K cd_is_of "is_of"=true) (k_is_of:AI K (.ref f_is_of)=true)
  (a_in_order:As K Az "in_order"=some (some (.ref f_in_order))) (l_in_order:K.lookup f_in_order=some ⟨oc_in_order,od_in_order,.func (AZ "in_order" "in_order" (zR yi) (zQ yi) (zG yi) .none kV_in_order dc_in_order pm_in_order an_in_order cd_in_order ct_in_order),sl_in_order⟩) (c_in_order:AR K cd_in_order "in_order"=true) (k_in_order:AI K (.ref f_in_order)=true)
  (a_order_of:As K Az "order_of"=some (some (.ref f_order_of))) (l_order_of:K.lookup f_order_of=some ⟨oc_order_of,od_order_of,.func (AZ "order_of" "order_of" (zR yh) (zQ yh) (zG yh) .none kV_order_of dc_order_of pm_order_of an_order_of cd_order_of ct_order_of),sl_order_of⟩) (c_order_of:AR K cd_order_of "order_of"=true) (k_order_of:AI K (.ref f_order_of)=true)
  (a_forms_by:As K Az "forms_by"=some (some (.ref f_forms_by))) (l_forms_by:K.lookup f_forms_by=some ⟨oc_forms_by,od_forms_by,.func (AZ "forms_by" "forms_by" (zR yQ) (zQ yQ) (zG yQ) .none kV_forms_by dc_forms_by pm_forms_by an_forms_by cd_forms_by ct_forms_by),sl_forms_by⟩) (c_forms_by:AR K cd_forms_by "forms_by"=true) (k_forms_by:AI K (.ref f_forms_by)=true)
  (a_joined_by:As K Az "joined_by"=some (some (.ref f_joined_by))) (l_joined_by:K.lookup f_joined_by=some ⟨oc_joined_by,od_joined_by,.func (AZ "joined_by" "joined_by" (zR yP) (zQ yP) (zG yP) .none kV_joined_by dc_joined_by pm_joined_by an_joined_by cd_joined_by ct_joined_by),sl_joined_by⟩) (c_joined_by:AR K cd_joined_by "joined_by"=true) (k_joined_by:AI K (.ref f_joined_by)=true)
  (a_all_forms:As K Az "all_forms"=some (some (.ref f_all_forms))) (l_all_forms:K.lookup f_all_forms=some ⟨oc_all_forms,od_all_forms,.func (AZ "all_forms" "all_forms" (zR yR) (zQ yR) (zG yR) .none kV_all_forms dc_all_forms pm_all_forms an_all_forms cd_all_forms ct_all_forms),sl_all_forms⟩) (c_all_forms:AR K cd_all_forms "all_forms"=true) (k_all_forms:AI K (.ref f_all_forms)=true)
  (a_many_forms:As K Az "many_forms"=some (some (.ref f_many_forms))) (l_many_forms:K.lookup f_many_forms=some ⟨oc_many_forms,od_many_forms,.func (AZ "many_forms" "many_forms" (zR zy) (zQ zy) (zG zy) .none kV_many_forms dc_many_forms pm_many_forms an_many_forms cd_many_forms ct_many_forms),sl_many_forms⟩) (c_many_forms:AR K cd_many_forms "many_forms"=true) (k_many_forms:AI K (.ref f_many_forms)=true)
  (a_met_at_all:As K Az "met_at_all"=some (some (.ref f_met_at_all))) (l_met_at_all:K.lookup f_met_at_all=some ⟨oc_met_at_all,od_met_at_all,.func (AZ "met_at_all" "met_at_all" (zR yB) (zQ yB) (zG yB) .none kV_met_at_all dc_met_at_all pm_met_at_all an_met_at_all cd_met_at_all ct_met_at_all),sl_met_at_all⟩) (c_met_at_all:AR K cd_met_at_all "met_at_all"=true) (k_met_at_all:AI K (.ref f_met_at_all)=true)
  (a_rows_of:As K Az "rows_of"=some (some (.ref f_rows_of))) (l_rows_of:K.lookup f_rows_of=some ⟨oc_rows_of,od_rows_of,.func (AZ "rows_of" "rows_of" (zR qL) (zQ qL) (zG qL) .none kV_rows_of dc_rows_of pm_rows_of an_rows_of cd_rows_of ct_rows_of),sl_rows_of⟩) (c_rows_of:AR K cd_rows_of "rows_of"=true) (k_rows_of:AI K (.ref f_rows_of)=true)
  (a_rows_that_meet:As K Az "rows_that_meet"=some (some (.ref f_rows_that_meet))) (l_rows_that_meet:K.lookup f_rows_that_meet=some ⟨oc_rows_that_meet,od_rows_that_meet,.func (AZ "rows_that_meet" "rows_that_meet" (zR ze) (zQ ze) (zG ze) .none kV_rows_that_meet dc_rows_that_meet pm_rows_that_meet an_rows_that_meet cd_rows_that_meet ct_rows_that_meet),sl_rows_that_meet⟩) (c_rows_that_meet:AR K cd_rows_that_meet "rows_that_meet"=true) (k_rows_that_meet:AI K (.ref f_rows_that_meet)=true)
  (a_rows_with:As K Az "rows_with"=some (some (.ref f_rows_with))) (l_rows_with:K.lookup f_rows_with=some ⟨oc_rows_with,od_rows_with,.func (AZ "rows_with" "rows_with" (zR yS) (zQ yS) (zG yS) .none kV_rows_with dc_rows_with pm_rows_with an_rows_with cd_rows_with ct_rows_with),sl_rows_with⟩) (c_rows_with:AR K cd_rows_with "rows_with"=true) (k_rows_with:AI K (.ref f_rows_with)=true)
  (a_law_all_rows:As K Az "_law_all_rows"=some (some (.ref f_law_all_rows))) (l_law_all_rows:K.lookup f_law_all_rows=some ⟨oc_law_all_rows,od_law_all_rows,.func (AZ "_law_all_rows" "_law_all_rows" (zR zk) (zQ zk) (zG zk) .none kV_law_all_rows dc_law_all_rows pm_law_all_rows an_law_all_rows cd_law_all_rows ct_law_all_rows),sl_law_all_rows⟩) (c_law_all_rows:AR K cd_law_all_rows "_law_all_rows"=true) (k_law_all_rows:AI K (.ref f_law_all_rows)=true)
  (a_law:As K Az "law"=some (some (.ref f_law))) (l_law:K.lookup f_law=some ⟨oc_law,od_law,.func (AZ "law" "law" (zR aBu) (zQ aBu) (zG aBu) .none kV_law dc_law pm_law an_law cd_law ct_law),sl_law⟩) (c_law:AR K cd_law "law"=true) (k_law:AI K (.ref f_law)=true)
  (a_KINDS:As K Az "KINDS"=some (some (.ref d_KINDS))) (l_KINDS:K.lookup d_KINDS=some ⟨.type "dict",none,.dict es_KINDS n_KINDS,#[]⟩) (k_KINDS:Eo w.params es_KINDS.toList)
  (e_KINDS_plus:As K d_KINDS "plus"=some (some (.str "sum" t_k1)))
  (e_KINDS_less:As K d_KINDS "less"=some (some (.str "sum" t_k2)))
  (e_KINDS_times:As K d_KINDS "times"=some (some (.str "product" t_k3)))
  (e_KINDS_share:As K d_KINDS "share"=some (some (.str "product" t_k4)))
  (a_RANKS:As K Az "RANKS"=some (some (.ref d_RANKS))) (l_RANKS:K.lookup d_RANKS=some ⟨.type "dict",none,.dict es_RANKS n_RANKS,#[]⟩) (k_RANKS:Eo w.params es_RANKS.toList)
  (e_RANKS_sum:As K d_RANKS "sum"=some (some (.int 2 t_r1)))
  (e_RANKS_product:As K d_RANKS "product"=some (some (.int 3 t_r2)))
  (a_DEEDS:As K Az "DEEDS"=some (some (.ref d_DEEDS))) (l_DEEDS:K.lookup d_DEEDS=some ⟨.type "dict",none,.dict es_DEEDS n_DEEDS,#[]⟩) (k_DEEDS:Eo w.params es_DEEDS.toList)
  (e_DEEDS_plus:As K d_DEEDS "plus"=some (some (.ref f_plus)))
  (e_DEEDS_less:As K d_DEEDS "less"=some (some (.ref f_less)))
  (e_DEEDS_times:As K d_DEEDS "times"=some (some (.ref f_times)))
  (e_DEEDS_share:As K d_DEEDS "share"=some (some (.ref f_share)))
  (z_max:As K Az "max"=some none)
  (z_min:As K Az "min"=some none)
  (z_sorted:As K Az "sorted"=some none)
  (z_any:As K Az "any"=some none)
  (z_list:As K Az "list"=some none)
  (z_set:As K Az "set"=some none)
  (z_abs:As K Az "abs"=some none)
  (sm_DEEDS:(d_DEEDS == BM)=false)
  (kt_DEEDS:KeyTs es_DEEDS.toList dW)
  (a_WishError:As K Az "WishError"=some (some (.ref C_WishError)))
  (l_WishError:K.lookup C_WishError=some (GT nm_WishError qn_WishError C_WishError N_WishError bs_WishError vMro true sn_WishError sub_WishError ab_WishError col_WishError dd_WishError k0_WishError k1_WishError k2_WishError k3_WishError k5_WishError "ValueError.__new__"))
  (t_WishError:ED K vMro vMro=true)
  (kp_WishError:AI K (.ref C_WishError)=true)
  (ga_WishError:BK K (.ref C_WishError) "__getattribute__"=some (some (.builtin "BaseException.__getattribute__")))
  (gh_WishError:BK K (.ref C_WishError) "__getattr__"=some none)
  (gc_WishError:BK K (.ref C_WishError) "__class__"=some (some (.builtin "object.__class__")))
  (sa_WishError:BK K (.ref C_WishError) "__setattr__"=some (some (.builtin "object.__setattr__")))
  (a_NoWay:As K Az "NoWay"=some (some (.ref C_NoWay)))
  (l_NoWay:K.lookup C_NoWay=some (GT nm_NoWay qn_NoWay C_NoWay N_NoWay bs_NoWay bm_NoWay true sn_NoWay sub_NoWay ab_NoWay col_NoWay dd_NoWay k0_NoWay k1_NoWay k2_NoWay k3_NoWay k5_NoWay "ValueError.__new__"))
  (t_NoWay:ED K vMro bm_NoWay=true)
  (kp_NoWay:AI K (.ref C_NoWay)=true)
  (ga_NoWay:BK K (.ref C_NoWay) "__getattribute__"=some (some (.builtin "BaseException.__getattribute__")))
  (gh_NoWay:BK K (.ref C_NoWay) "__getattr__"=some none)
  (gc_NoWay:BK K (.ref C_NoWay) "__class__"=some (some (.builtin "object.__class__")))
  (sa_NoWay:BK K (.ref C_NoWay) "__setattr__"=some (some (.builtin "object.__setattr__")))
  (i_NoWay:BK K (.ref C_NoWay) "__init__"=some (some (.ref f_init)))
  (y_init:Mz K (.ref f_init)=some (.type "function"))
  (l_init:K.lookup f_init=some ⟨oc_init,od_init,.func (AZ "__init__" "NoWay.__init__" (zR aB9) (zQ aB9) (zG aB9) .none kV_init dc_init pm_init an_init cd_init ct_init),sl_init⟩)
  (cd_ok_init:AR K cd_init "NoWay.__init__"=true)
  (k_init:AI K (.ref f_init)=true)
  (w_NoWay:BK K (.ref C_NoWay) "word"=some none)
  (a_TURNED:As K Az "TURNED"=some (some (.ref t_T)))
  (l_TURNED:K.lookup t_T=some ⟨.type "tuple",od_T,.seq #[.str "less" tt1,.str "share" tt2] ns_T,sl_T⟩)
  (z_len:As K Az "len"=some none)
  (z_sum:As K Az "sum"=some none)
  (z_range:As K Az "range"=some none)
  (z_isinstance:As K Az "isinstance"=some none)
  (z_int:As K Az "int"=some none)
  (z_str:As K Az "str"=some none)
  (z_bool:As K Az "bool"=some none)
  (z_tuple:As K Az "tuple"=some none)
  (z_zip:As K Az "zip"=some none) :
  ∃ fd:Bu,(∀ (s:Ad) (v:Value),Mg s fd ⟨[v],[]⟩ [("script",v)])/\∀ base:Heap,K.In base->base.Ns Az mg->FnOk l.prog w K mg base CX0 30 fa fd ["script"] (aHP K):=by
 have e:=hfa.symm.trans (AU X G a_law)
 cases e
 have F_choices_of:=zg (st:=zx) l_choices_of c_choices_of k_choices_of
 have b_choices_of:=F_choices_of.binds (ps:=["many"]) fun _ _ _ _ _ _ us hl=>match us,hl with | [_],_=>rfl
 have m_choices_of:=AU X G a_choices_of
 have F_splits_of:=zg (st:=yL) l_splits_of c_splits_of k_splits_of
 have b_splits_of:=F_splits_of.binds (ps:=["choice"]) fun _ _ _ _ _ _ us hl=>match us,hl with | [_],_=>rfl
 have m_splits_of:=AU X G a_splits_of
 have F_plus:=zg (st:=aBA) l_plus c_plus k_plus
 have b_plus:=F_plus.binds (ps:=["first","second"]) fun _ _ _ _ _ _ us hl=>match us,hl with | [_,_],_=>rfl
 have m_plus:=AU X G a_plus
 have F_less:=zg (st:=aBB) l_less c_less k_less
 have b_less:=F_less.binds (ps:=["first","second"]) fun _ _ _ _ _ _ us hl=>match us,hl with | [_,_],_=>rfl
 have m_less:=AU X G a_less
 have F_times:=zg (st:=jx) l_times c_times k_times
 have b_times:=F_times.binds (ps:=["first","second"]) fun _ _ _ _ _ _ us hl=>match us,hl with | [_,_],_=>rfl
 have m_times:=AU X G a_times
 have F_share:=zg (st:=jy) l_share c_share k_share
 have b_share:=F_share.binds (ps:=["first","second"]) fun _ _ _ _ _ _ us hl=>match us,hl with | [_,_],_=>rfl
 have m_share:=AU X G a_share
 have F_worth_by:=zg (st:=yf) l_worth_by c_worth_by k_worth_by
 have b_worth_by:=F_worth_by.binds (ps:=["word","first","second"]) fun _ _ _ _ _ _ us hl=>match us,hl with | [_,_,_],_=>rfl
 have m_worth_by:=AU X G a_worth_by
 have F_deeds_between:=zg (st:=zh) l_deeds_between c_deeds_between k_deeds_between
 have b_deeds_between:=F_deeds_between.binds (ps:=["firsts","seconds"]) fun _ _ _ _ _ _ us hl=>match us,hl with | [_,_],_=>rfl
 have m_deeds_between:=AU X G a_deeds_between
 have F_chosen_of:=zg (st:=yM) l_chosen_of c_chosen_of k_chosen_of
 have b_chosen_of:=F_chosen_of.binds (ps:=["numbers","choice"]) fun _ _ _ _ _ _ us hl=>match us,hl with | [_,_],_=>rfl
 have m_chosen_of:=AU X G a_chosen_of
 have F_table_of:=zg (st:=yg) l_table_of c_table_of k_table_of
 have b_table_of:=F_table_of.binds (ps:=["numbers"]) fun _ _ _ _ _ _ us hl=>match us,hl with | [_],_=>rfl
 have m_table_of:=AU X G a_table_of
 have F_row_for:=zg (st:=qK) l_row_for c_row_for k_row_for
 have b_row_for:=F_row_for.binds (ps:=["numbers","choice","table"]) fun _ _ _ _ _ _ us hl=>match us,hl with | [_,_,_],_=>rfl
 have m_row_for:=AU X G a_row_for
 have F_law_number:=zg (st:=yA) l_law_number c_law_number k_law_number
 have b_law_number:=F_law_number.binds (ps:=["script","k"]) fun _ _ _ _ _ _ us hl=>match us,hl with | [_,_],_=>rfl
 have m_law_number:=AU X G a_law_number
 have F_joined:=zg (st:=qq) l_joined c_joined k_joined
 have b_joined:=F_joined.binds (ps:=["word","first","second"]) fun _ _ _ _ _ _ us hl=>match us,hl with | [_,_,_],_=>rfl
 have m_joined:=AU X G a_joined
 have F_parts_for:=zg (st:=yN) l_parts_for c_parts_for k_parts_for
 have b_parts_for:=F_parts_for.binds (ps:=["kind","form"]) fun _ _ _ _ _ _ us hl=>match us,hl with | [_,_],_=>rfl
 have m_parts_for:=AU X G a_parts_for
 have F_is_of:=zg (st:=jz) l_is_of c_is_of k_is_of
 have b_is_of:=F_is_of.binds (ps:=["kind","form"]) fun _ _ _ _ _ _ us hl=>match us,hl with | [_,_],_=>rfl
 have m_is_of:=AU X G a_is_of
 have F_in_order:=zg (st:=yi) l_in_order c_in_order k_in_order
 have b_in_order:=F_in_order.binds (ps:=["parts"]) fun _ _ _ _ _ _ us hl=>match us,hl with | [_],_=>rfl
 have m_in_order:=AU X G a_in_order
 have F_order_of:=zg (st:=yh) l_order_of c_order_of k_order_of
 have b_order_of:=F_order_of.binds (ps:=["form"]) fun _ _ _ _ _ _ us hl=>match us,hl with | [_],_=>rfl
 have m_order_of:=AU X G a_order_of
 have F_forms_by:=zg (st:=yQ) l_forms_by c_forms_by k_forms_by
 have b_forms_by:=F_forms_by.binds (ps:=["table","choice","worth"]) fun _ _ _ _ _ _ us hl=>match us,hl with | [_,_,_],_=>rfl
 have m_forms_by:=AU X G a_forms_by
 have F_joined_by:=zg (st:=yP) l_joined_by c_joined_by k_joined_by
 have b_joined_by:=F_joined_by.binds (ps:=["word","firsts","seconds"]) fun _ _ _ _ _ _ us hl=>match us,hl with | [_,_,_],_=>rfl
 have m_joined_by:=AU X G a_joined_by
 have F_all_forms:=zg (st:=yR) l_all_forms c_all_forms k_all_forms
 have b_all_forms:=F_all_forms.binds (ps:=["numbers","wish"]) fun _ _ _ _ _ _ us hl=>match us,hl with | [_,_],_=>rfl
 have m_all_forms:=AU X G a_all_forms
 have F_many_forms:=zg (st:=zy) l_many_forms c_many_forms k_many_forms
 have b_many_forms:=F_many_forms.binds (ps:=["numbers","wish"]) fun _ _ _ _ _ _ us hl=>match us,hl with | [_,_],_=>rfl
 have m_many_forms:=AU X G a_many_forms
 have F_met_at_all:=zg (st:=yB) l_met_at_all c_met_at_all k_met_at_all
 have b_met_at_all:=F_met_at_all.binds (ps:=["numbers"]) fun _ _ _ _ _ _ us hl=>match us,hl with | [_],_=>rfl
 have m_met_at_all:=AU X G a_met_at_all
 have F_rows_of:=zg (st:=qL) l_rows_of c_rows_of k_rows_of
 have b_rows_of:=F_rows_of.binds (ps:=["many","greatest"]) fun _ _ _ _ _ _ us hl=>match us,hl with | [_,_],_=>rfl
 have m_rows_of:=AU X G a_rows_of
 have F_rows_that_meet:=zg (st:=ze) l_rows_that_meet c_rows_that_meet k_rows_that_meet
 have b_rows_that_meet:=F_rows_that_meet.binds (ps:=["many","greatest","wish"]) fun _ _ _ _ _ _ us hl=>match us,hl with | [_,_,_],_=>rfl
 have m_rows_that_meet:=AU X G a_rows_that_meet
 have F_rows_with:=zg (st:=yS) l_rows_with c_rows_with k_rows_with
 have b_rows_with:=F_rows_with.binds (ps:=["many","greatest","wish","forms"]) fun _ _ _ _ _ _ us hl=>match us,hl with | [_,_,_,_],_=>rfl
 have m_rows_with:=AU X G a_rows_with
 have F_law_all_rows:=zg (st:=zk) l_law_all_rows c_law_all_rows k_law_all_rows
 have b_law_all_rows:=F_law_all_rows.binds (ps:=["many","greatest"]) fun _ _ _ _ _ _ us hl=>match us,hl with | [_,_],_=>rfl
 have m_law_all_rows:=AU X G a_law_all_rows
 have F_law:=zg (st:=aBu) l_law c_law k_law
 have b_law:=F_law.binds (ps:=["script"]) fun _ _ _ _ _ _ us hl=>match us,hl with | [_],_=>rfl
 have m_law:=AU X G a_law
 have B:Blt mg:=⟨Bx X G z_len,Bx X G z_sum,Bx X G z_range,Bx X G z_isinstance,Bx X G z_int,Bx X G z_str,Bx X G z_bool,Bx X G z_tuple,Bx X G z_zip⟩
 refine ⟨AZ "law" "law" (zR aBu) (zQ aBu) (zG aBu) .none kV_law dc_law pm_law an_law cd_law ct_law,fun s v=>.of_eq rfl,fun base _ _=>?_⟩
 have c_WishError:XC K C_WishError vMro:=⟨⟨_,_,_,_,_,_,_,_,_,_,_,_,_,_,l_WishError⟩,t_WishError,kp_WishError,ga_WishError,gh_WishError,gc_WishError,sa_WishError⟩
 have c_NoWay:XC K C_NoWay bm_NoWay:=⟨⟨_,_,_,_,_,_,_,_,_,_,_,_,_,_,l_NoWay⟩,t_NoWay,kp_NoWay,ga_NoWay,gh_NoWay,gc_NoWay,sa_NoWay⟩
 have F_init:=zg (st:=aB9) l_init cd_ok_init k_init
 have b_init:=F_init.binds (ps:=["self","word"]) fun _ _ _ _ _ _ us hl=>match us,hl with | [_,_],_=>rfl
 have R:Refs l.prog w K mg base C_WishError C_NoWay bm_NoWay :=
  ⟨c_WishError,c_NoWay,AU X G a_NoWay,⟨f_init,_,_,i_NoWay,y_init,aJQ F_init c_NoWay w_NoWay,b_init⟩,w_NoWay⟩
 have De:DeedsX l.prog w K mg base C_NoWay d_DEEDS (aM8 f_plus f_less f_times f_share):=by
  refine ⟨⟨_,_,l_DEEDS,k_DEEDS⟩,AU X G a_DEEDS,fun wd hw=>?_,fun wd hw=>?_⟩
  ·rcases hw with rfl | rfl | rfl | rfl
   ·exact e_DEEDS_plus
   ·exact e_DEEDS_less
   ·exact e_DEEDS_times
   ·exact e_DEEDS_share
  ·rcases hw with rfl | rfl | rfl | rfl
   ·exact ⟨⟨_,_,aHk F_plus,b_plus⟩,k_plus⟩
   ·exact ⟨⟨_,_,aHm F_less R,b_less⟩,k_less⟩
   ·exact ⟨⟨_,_,aGe F_times,b_times⟩,k_times⟩
   ·exact ⟨⟨_,_,aGf F_share R,b_share⟩,k_share⟩
 have TK:aDB w K d_DEEDS dW:=⟨sm_DEEDS,by decide +kernel,_,_,l_DEEDS,k_DEEDS,kt_DEEDS⟩
 have Bmax:mg "max"=none:=Bx X G z_max
 have Bmin:mg "min"=none:=Bx X G z_min
 have Blist:mg "list"=none:=Bx X G z_list
 have Bsorted:=Bx X G z_sorted
 have Bset:=Bx X G z_set
 have Bany:=Bx X G z_any
 have Babs:=Bx X G z_abs
 have Gwb:=yp (aKx F_worth_by B De) b_worth_by m_worth_by k_worth_by
 have Gchs:=yp (aL0 (P:=l.prog) (w:=w) (base:=base) F_choices_of B) b_choices_of m_choices_of k_choices_of
 have Gspl:=yp (aL1 (P:=l.prog) (w:=w) (base:=base) F_splits_of Bany) b_splits_of m_splits_of k_splits_of
 have Gcho:=yp (aL4 (P:=l.prog) (w:=w) (base:=base) F_chosen_of B) b_chosen_of m_chosen_of k_chosen_of
 have Gdb:=yp (aLx F_deeds_between R De TK Gwb) b_deeds_between m_deeds_between k_deeds_between
 have Grf:=yp (aLy F_row_for B Bset Bsorted Gcho Gspl Gdb) b_row_for m_row_for k_row_for
 have Gtab:=yp (aL7 F_table_of B Bany Gchs Grf) b_table_of m_table_of k_table_of
 have Gnum:=yp (aLF (P:=l.prog) (w:=w) (base:=base) F_law_number B Bmax Bmin Blist) b_law_number m_law_number k_law_number
 have mK:=AU X G a_KINDS
 have mR:=AU X G a_RANKS
 have mT:=AU X G a_TURNED
 have TKn:jm w K d_KINDS:=⟨es_KINDS,n_KINDS,l_KINDS,k_KINDS⟩
 have TR:jm w K d_RANKS:=⟨es_RANKS,n_RANKS,l_RANKS,k_RANKS⟩
 have TT:aL8 K t_T:=fun _=>.inr ⟨_,_,_,l_TURNED,rfl,rfl,by show 2<=sizeLine; decide,.cons ⟨tt1,rfl⟩ (.cons ⟨tt2,rfl⟩ .nil)⟩
 have hK:∀ k:Str,qI k->∃ t,As K d_KINDS k=some (some (.str (knd k) t)):=fun k h=>by
  rcases h with rfl | rfl | rfl | rfl
  ·exact ⟨t_k1,by rw [e_KINDS_plus,show knd "plus"="sum" by decide +kernel]⟩
  ·exact ⟨t_k2,by rw [e_KINDS_less,show knd "less"="sum" by decide +kernel]⟩
  ·exact ⟨t_k3,by rw [e_KINDS_times,show knd "times"="product" by decide +kernel]⟩
  ·exact ⟨t_k4,by rw [e_KINDS_share,show knd "share"="product" by decide +kernel]⟩
 have hR:∀ k:Str,(k="sum"\/k="product")->∃ t,As K d_RANKS k=some (some (.int (rkK k) t)):=fun k h=>by
  rcases h with rfl | rfl
  ·exact ⟨t_r1,by rw [e_RANKS_sum,show rkK "sum"=2 by decide +kernel]⟩
  ·exact ⟨t_r2,by rw [e_RANKS_product,show rkK "product"=3 by decide +kernel]⟩
 have Gorder:=yp (aHp (P:=l.prog) (w:=w) (base:=base) F_order_of B mR TR hR) b_order_of m_order_of k_order_of
 have Gin:=yp (aM0 F_in_order B Bsorted Gorder) b_in_order m_in_order k_in_order
 have Gis:=yp (aM1 (P:=l.prog) (w:=w) (base:=base) F_is_of B) b_is_of m_is_of k_is_of
 have Gparts:=yp (aHr F_parts_for B Gis) b_parts_for m_parts_for k_parts_for
 have Gjoined:=yp (aJZ F_joined B mK mT TKn TT hK Gparts Gin) b_joined m_joined k_joined
 have Gjby:=yp (aLB F_joined_by Gorder Gjoined) b_joined_by m_joined_by k_joined_by
 have Gfb:=yp (aIZ F_forms_by b_forms_by m_forms_by B Gorder Gspl Gdb Gjby 4) b_forms_by m_forms_by k_forms_by
 have Gaf:=yp (aLC F_all_forms Bsorted Gtab Gfb) b_all_forms m_all_forms k_all_forms
 have Gmf:=yp (aLD F_many_forms B Gaf) b_many_forms m_many_forms k_many_forms
 have Gall:=yp (aLH F_met_at_all B Bsorted Gtab) b_met_at_all m_met_at_all k_met_at_all
 have Gro:=yp (aM4 (P:=l.prog) (w:=w) (base:=base) F_rows_of B Bmax) b_rows_of m_rows_of k_rows_of
 have Grm:=yp (aM5 F_rows_that_meet Gro Gall) b_rows_that_meet m_rows_that_meet k_rows_that_meet
 have Grw:=yp (aLJ F_rows_with Gro Gmf) b_rows_with m_rows_with k_rows_with
 have Gar:=yp (aM6 (P:=l.prog) (w:=w) (base:=base) F_law_all_rows B Blist Bsorted) b_law_all_rows m_law_all_rows k_law_all_rows
 exact aLL F_law B Bmax Bset Bsorted Gnum Gar Gaf Gmf Grm Grw
theorem walk {l:Jl} {q:At} {loose:List Str} {XP:(Str->Option Value)->Heap->Prop} {YP:AV->Heap->Prop} {d:DefRec} {K:Params->Af} (hn:l.most=some 63) (hdf:d.params.defaults=[])
  (hY:∀ (w:AV) (h:Heap),YP w h->(K w.params).In h)
  (F:∀ (w:AV) (mg:Str->Option Value) (fa:Addr) (h:Heap),(K w.params).In h->h.Ns Az mg->mg d.name=some (.ref fa) ->
   ∃ fd:Bu,(∀ (s:Ad) (u:Value),Mg s fd ⟨[u],[]⟩ [("script",u)])/\∀ base:Heap,(K w.params).In base->base.Ns Az mg->FnOk l.prog w (K w.params) mg base CX0 30 fa fd ["script"] (aHP (K w.params))) :
  MP q loose XP YP l.row.toRowW d [] (fun f vs=>MI f vs) :=
 L2.walk_of (n:=63) (k:=30) (x:="script") (CX:=fun _=>CX0) (sp:=fun w=>aHP (K w.params)) hn (by decide) hdf ⟨rfl,by decide,by decide⟩ hY F (fun _ _ a ns hl _ hS=>⟨a,ns,rfl,hS,hl,fun _=>rfl⟩) fun _ _ _ _ _ z=>z
end Law
open PySem PySem.W PyProof.Rows
namespace PySem.W.Fast
def tw5383109928729110101:Unit:=()
def tw2151297684010936322:Unit:=()
def tw17308226025813595697:Unit:=()
def tw2283740750250788100:Unit:=()
def tw18339769836510833222:Unit:=()
def tw6827728543723787388:Unit:=()
def tw2122932888874966200:Unit:=()
def tw15457741039910571725:Unit:=()
def tw5189199364798259988:Unit:=()
def tw14551723942219842513:Unit:=()
def tw8445951248236885848:Unit:=()
def tw8102752966065598828:Unit:=()
def tw10001665780963128926:Unit:=()
def tw18324174403966489183:Unit:=()
def tw3508352669038377192:Unit:=()
def tw6411393267773343073:Unit:=()
def tw847641116976775490:Unit:=()
def tw13248204776206545666:Unit:=()
def tw8494391073638042223:Unit:=()
def tw2005836359221391799:Unit:=()
def tw10001961377578085480:Unit:=()
def tw17360895058740910101:Unit:=()
def tw3556901399598826246:Unit:=()
def tw1906203611344814537:Unit:=()
def tw9422228338947523096:Unit:=()
def tw11166019089994278882:Unit:=()
def tw15435617787580354554:Unit:=()
def tw11881266528709611301:Unit:=()
def tw12925827872589303100:Unit:=()
def tw12688990223668328610:Unit:=()
def tw11341095580518813209:Unit:=()
def tw12083470711125288457:Unit:=()
def tw2544827881387408314:Unit:=()
def tw14925293203893979310:Unit:=()
def tw17414730015109504099:Unit:=()
def tw18028104608499234900:Unit:=()
def tw1585477951594339779:Unit:=()
def tw3812026737775432995:Unit:=()
def tw5002716531231205613:Unit:=()
def tw3656633406377188668:Unit:=()
def tw569911088098935827:Unit:=()
def tw12581793865904972114:Unit:=()
def tw15435535664408974732:Unit:=()
def tw12251673051452301159:Unit:=()
def tw18418224129420309231:Unit:=()
def tw16943157554512333403:Unit:=()
def tw8010385929779417252:Unit:=()
def tw4776088519034060091:Unit:=()
def tw18426424776177591464:Unit:=()
def tw3410598378038060502:Unit:=()
def tw16514748858627157891:Unit:=()
def tw15306948729642637268:Unit:=()
def tw10905508583578257747:Unit:=()
def tw17909906568401012877:Unit:=()
def tw13811914631675847638:Unit:=()
def tw15760842918031908395:Unit:=()
def tw14123408372625318509:Unit:=()
def tw10451222472240135269:Unit:=()
def tw10562965330540695477:Unit:=()
def tw8289794571897359269:Unit:=()
def tw17838675961393619735:Unit:=()
def tw6812791327913117176:Unit:=()
def tw13280137968388454367:Unit:=()
def tw14742558583068634431:Unit:=()
def tw4812532617071180163:Unit:=()
def tw12144415827374060286:Unit:=()
def tw6692358791461369614:Unit:=()
def tw17144261699360405526:Unit:=()
def tw14713058613650872013:Unit:=()
def tw4949216502645300956:Unit:=()
def tw17246094157169089696:Unit:=()
def tw2385322837632828892:Unit:=()
def tw2253960167574991312:Unit:=()
def tw39091277072215073:Unit:=()
def tw4538048633993987675:Unit:=()
def tw641233765963762043:Unit:=()
def tw6496227268309351157:Unit:=()
def tw15437847233068558233:Unit:=()
def tw12046202091520635305:Unit:=()
def tw14042000549616253133:Unit:=()
def tw5723508018783206566:Unit:=()
def tw17882059788848682507:Unit:=()
def tw17624370856496882765:Unit:=()
def tw8778219250867433334:Unit:=()
def tw16984167897732704599:Unit:=()
def tw9965748080364122497:Unit:=()
def tw18255973172722476207:Unit:=()
def tw17127819152789141148:Unit:=()
def tw16318921727888935077:Unit:=()
def tw13289359108261998901:Unit:=()
def tw17573488878802112125:Unit:=()
def tw14173843584730585728:Unit:=()
def tw7042665394563912544:Unit:=()
def tw8132717787177727591:Unit:=()
def tw3517032713093736463:Unit:=()
def tw12349633291673574993:Unit:=()
def tw46640374992206068:Unit:=()
def tw1645312536270956604:Unit:=()
def tw18297443711545279710:Unit:=()
def tw17253333481701936197:Unit:=()
def tw9096007627875779935:Unit:=()
def tw8115613376034577378:Unit:=()
def tw9950224519414249225:Unit:=()
def tw13232252740537292127:Unit:=()
def tw14772685341321571876:Unit:=()
def tw1475780157885687073:Unit:=()
def tw9036376823689618070:Unit:=()
def tw16781251649579808046:Unit:=()
def tw16258588997117462040:Unit:=()
def tw3506375280396355857:Unit:=()
def tw2454802423073627347:Unit:=()
def tw12715962879718660712:Unit:=()
def tw3514584761881774070:Unit:=()
def tw14576130860174143371:Unit:=()
def tw5502256667214136750:Unit:=()
def tw10908878716404649407:Unit:=()
def tw1892119721840346326:Unit:=()
def tw7786336862531635991:Unit:=()
def tw9468544825210682060:Unit:=()
def tw3556822026299128374:Unit:=()
def tw9758322648212225332:Unit:=()
def tw3925377080628211583:Unit:=()
def tw9530987392143837854:Unit:=()
def tw18088180247089651847:Unit:=()
def tw14752152996801013129:Unit:=()
end PySem.W.Fast
set_option maxRecDepth 100000 in
set_option maxHeartbeats 0 in
theorem PySem.Challenge.cw_ledtowish_k28_whole_rows_by_their_forms_holds : PySem.Challenge.rw_ledtowish_k28_whole_rows_by_their_forms.Holds := by
 w_on; o_law; k_head; (case hw=>w_witness2)
 k_fill
 refine Law.walk (l:=PySem.Challenge.rw_ledtowish_k28_whole_rows_by_their_forms) rfl rfl (fun w h Y=>PySem.W.kIn_of Y) ?F
 case F =>
  intro w mg fa h KX G hmg
  refine' Law.all_mk KX G hmg ?a_choices_of ?l_choices_of ?c_choices_of ?k_choices_of ?a_splits_of ?l_splits_of ?c_splits_of ?k_splits_of ?a_plus ?l_plus ?c_plus ?k_plus ?a_less ?l_less ?c_less ?k_less ?a_times ?l_times ?c_times ?k_times ?a_share ?l_share ?c_share ?k_share ?a_worth_by ?l_worth_by ?c_worth_by ?k_worth_by ?a_deeds_between ?l_deeds_between ?c_deeds_between ?k_deeds_between ?a_chosen_of ?l_chosen_of ?c_chosen_of ?k_chosen_of ?a_table_of ?l_table_of ?c_table_of ?k_table_of ?a_row_for ?l_row_for ?c_row_for ?k_row_for ?a_law_number ?l_law_number ?c_law_number ?k_law_number ?a_joined ?l_joined ?c_joined ?k_joined ?a_parts_for ?l_parts_for ?c_parts_for ?k_parts_for ?a_is_of ?l_is_of ?c_is_of ?k_is_of ?a_in_order ?l_in_order ?c_in_order ?k_in_order ?a_order_of ?l_order_of ?c_order_of ?k_order_of ?a_forms_by ?l_forms_by ?c_forms_by ?k_forms_by ?a_joined_by ?l_joined_by ?c_joined_by ?k_joined_by ?a_all_forms ?l_all_forms ?c_all_forms ?k_all_forms ?a_many_forms ?l_many_forms ?c_many_forms ?k_many_forms ?a_met_at_all ?l_met_at_all ?c_met_at_all ?k_met_at_all ?a_rows_of ?l_rows_of ?c_rows_of ?k_rows_of ?a_rows_that_meet ?l_rows_that_meet ?c_rows_that_meet ?k_rows_that_meet ?a_rows_with ?l_rows_with ?c_rows_with ?k_rows_with ?a_law_all_rows ?l_law_all_rows ?c_law_all_rows ?k_law_all_rows ?a_law ?l_law ?c_law ?k_law ?a_KINDS ?l_KINDS ?k_KINDS ?e_KINDS_plus ?e_KINDS_less ?e_KINDS_times ?e_KINDS_share ?a_RANKS ?l_RANKS ?k_RANKS ?e_RANKS_sum ?e_RANKS_product ?a_DEEDS ?l_DEEDS ?k_DEEDS ?e_DEEDS_plus ?e_DEEDS_less ?e_DEEDS_times ?e_DEEDS_share ?z_max ?z_min ?z_sorted ?z_any ?z_list ?z_set ?z_abs ?sm_DEEDS ?kt_DEEDS ?a_WishError ?l_WishError ?t_WishError ?kp_WishError ?ga_WishError ?gh_WishError ?gc_WishError ?sa_WishError ?a_NoWay ?l_NoWay ?t_NoWay ?kp_NoWay ?ga_NoWay ?gh_NoWay ?gc_NoWay ?sa_NoWay ?i_NoWay ?y_init ?l_init ?cd_ok_init ?k_init ?w_NoWay ?a_TURNED ?l_TURNED ?z_len ?z_sum ?z_range ?z_isinstance ?z_int ?z_str ?z_bool ?z_tuple ?z_zip
  (case a_choices_of=>k_is)
  (case l_choices_of=>k_is)
  (case c_choices_of=>k_is)
  (case k_choices_of=>k_is)
  (case a_splits_of=>k_is)
  (case l_splits_of=>k_is)
  (case c_splits_of=>k_is)
  (case k_splits_of=>k_is)
  (case a_plus=>k_is)
  (case l_plus=>k_is)
  (case c_plus=>k_is)
  (case k_plus=>k_is)
  (case a_less=>k_is)
  (case l_less=>k_is)
  (case c_less=>k_is)
  (case k_less=>k_is)
  (case a_times=>k_is)
  (case l_times=>k_is)
  (case c_times=>k_is)
  (case k_times=>k_is)
  (case a_share=>k_is)
  (case l_share=>k_is)
  (case c_share=>k_is)
  (case k_share=>k_is)
  (case a_worth_by=>k_is)
  (case l_worth_by=>k_is)
  (case c_worth_by=>k_is)
  (case k_worth_by=>k_is)
  (case a_deeds_between=>k_is)
  (case l_deeds_between=>k_is)
  (case c_deeds_between=>k_is)
  (case k_deeds_between=>k_is)
  (case a_chosen_of=>k_is)
  (case l_chosen_of=>k_is)
  (case c_chosen_of=>k_is)
  (case k_chosen_of=>k_is)
  (case a_table_of=>k_is)
  (case l_table_of=>k_is)
  (case c_table_of=>k_is)
  (case k_table_of=>k_is)
  (case a_row_for=>k_is)
  (case l_row_for=>k_is)
  (case c_row_for=>k_is)
  (case k_row_for=>k_is)
  (case a_law_number=>k_is)
  (case l_law_number=>k_is)
  (case c_law_number=>k_is)
  (case k_law_number=>k_is)
  (case a_joined=>k_is)
  (case l_joined=>k_is)
  (case c_joined=>k_is)
  (case k_joined=>k_is)
  (case a_parts_for=>k_is)
  (case l_parts_for=>k_is)
  (case c_parts_for=>k_is)
  (case k_parts_for=>k_is)
  (case a_is_of=>k_is)
  (case l_is_of=>k_is)
  (case c_is_of=>k_is)
  (case k_is_of=>k_is)
  (case a_in_order=>k_is)
  (case l_in_order=>k_is)
  (case c_in_order=>k_is)
  (case k_in_order=>k_is)
  (case a_order_of=>k_is)
  (case l_order_of=>k_is)
  (case c_order_of=>k_is)
  (case k_order_of=>k_is)
  (case a_forms_by=>k_is)
  (case l_forms_by=>k_is)
  (case c_forms_by=>k_is)
  (case k_forms_by=>k_is)
  (case a_joined_by=>k_is)
  (case l_joined_by=>k_is)
  (case c_joined_by=>k_is)
  (case k_joined_by=>k_is)
  (case a_all_forms=>k_is)
  (case l_all_forms=>k_is)
  (case c_all_forms=>k_is)
  (case k_all_forms=>k_is)
  (case a_many_forms=>k_is)
  (case l_many_forms=>k_is)
  (case c_many_forms=>k_is)
  (case k_many_forms=>k_is)
  (case a_met_at_all=>k_is)
  (case l_met_at_all=>k_is)
  (case c_met_at_all=>k_is)
  (case k_met_at_all=>k_is)
  (case a_rows_of=>k_is)
  (case l_rows_of=>k_is)
  (case c_rows_of=>k_is)
  (case k_rows_of=>k_is)
  (case a_rows_that_meet=>k_is)
  (case l_rows_that_meet=>k_is)
  (case c_rows_that_meet=>k_is)
  (case k_rows_that_meet=>k_is)
  (case a_rows_with=>k_is)
  (case l_rows_with=>k_is)
  (case c_rows_with=>k_is)
  (case k_rows_with=>k_is)
  (case a_law_all_rows=>k_is)
  (case l_law_all_rows=>k_is)
  (case c_law_all_rows=>k_is)
  (case k_law_all_rows=>k_is)
  (case a_law=>k_is)
  (case l_law=>k_is)
  (case c_law=>k_is)
  (case k_law=>k_is)
  (case a_KINDS=>k_is)
  (case l_KINDS=>k_is)
  (case k_KINDS=>k_keys)
  (case e_KINDS_plus=>k_is)
  (case e_KINDS_less=>k_is)
  (case e_KINDS_times=>k_is)
  (case e_KINDS_share=>k_is)
  (case a_RANKS=>k_is)
  (case l_RANKS=>k_is)
  (case k_RANKS=>k_keys)
  (case e_RANKS_sum=>k_is)
  (case e_RANKS_product=>k_is)
  (case a_DEEDS=>k_is)
  (case l_DEEDS=>k_is)
  (case k_DEEDS=>k_keys)
  (case e_DEEDS_plus=>k_is)
  (case e_DEEDS_less=>k_is)
  (case e_DEEDS_times=>k_is)
  (case e_DEEDS_share=>k_is)
  (case z_max=>k_is)
  (case z_min=>k_is)
  (case z_sorted=>k_is)
  (case z_any=>k_is)
  (case z_list=>k_is)
  (case z_set=>k_is)
  (case z_abs=>k_is)
  (case sm_DEEDS=>decide +kernel)
  (case kt_DEEDS=>exact .cons rfl (.cons rfl (.cons rfl (.cons rfl .nil))))
  (case a_WishError=>k_is)
  (case l_WishError=>k_is)
  (case t_WishError=>kernel_rfl)
  (case kp_WishError=>k_is)
  (case ga_WishError=>k_is)
  (case gh_WishError=>k_is)
  (case gc_WishError=>k_is)
  (case sa_WishError=>k_is)
  (case a_NoWay=>k_is)
  (case l_NoWay=>k_is)
  (case t_NoWay=>kernel_rfl)
  (case kp_NoWay=>k_is)
  (case ga_NoWay=>k_is)
  (case gh_NoWay=>k_is)
  (case gc_NoWay=>k_is)
  (case sa_NoWay=>k_is)
  (case i_NoWay=>k_is)
  (case y_init=>k_is)
  (case l_init=>k_is)
  (case cd_ok_init=>k_is)
  (case k_init=>k_is)
  (case w_NoWay=>k_is)
  (case a_TURNED=>k_is)
  (case l_TURNED=>k_is)
  (case z_len=>k_is)
  (case z_sum=>k_is)
  (case z_range=>k_is)
  (case z_isinstance=>k_is)
  (case z_int=>k_is)
  (case z_str=>k_is)
  (case z_bool=>k_is)
  (case z_tuple=>k_is)
  (case z_zip=>k_is)
#print axioms PySem.Challenge.cw_ledtowish_k28_whole_rows_by_their_forms_holds

import PyProof.Rows.All
import Wide.All
import OpenK.AllK
import Wide.FinOn
import HandS.ForMost
import HandS.IsInst
import HandS.Wide
import HandS.Style
import HandS.Walk
import HandS.Zip
import HandS.Flow
import HandS.ForExc
import HandS.ExcInit
import HandS.Property
import HandS.TupSets
import HandS.Ends
import HandS.OwnEq
import HandS.MakeKw
import HandS.MakeKwOnly
import HandS.DictComp
import HandS.SortKw
import HandS.SortInts
import HandS.Conv
import HandS.SetFor
import HandS.Strs
import HandS.Set
import HandS.WrittenGet
import HandS.TupMul
import KE.GoesEnumKw
import KE.GoesMore
import PyProof.InstEq
import HandS.Small
import HandS.ExcOwn
import HandS.RaiseMore
import KE.KDictZip
import KE.KTupSum
import KE.KDictList
import HandS.Star
import HandS.TupAny
import HandS.TupLe
import PySem.Challenge.RW_orderlycore_k15_whole_words_and_instruct
set_option Elab.async false
set_option linter.all false
set_option maxRecDepth 100000
set_option maxHeartbeats 4000000
namespace Hx
open PySem PySem.Spec PyProof.Rows L2
/-! ### own rules -/
section
variable {X : Cx} {CX : CXT} {k : Nat} {f : Addr} {fd : FuncData} {ps ks : List Str} {sp : Sp} {E : XK} {x : Str} {p pos : Pos} {kws : List Keyword} {tk : TA} {g : List Value → List Value → List Value} {gV : List V → List V → List V}
theorem pe_callKA (F : FnOk X.prog X.w X.K X.mg X.base CX k f fd ps sp) (hr : Room k X.A) (hg : Gl X x) (hm : X.mg x = some (.ref f)) (hk : PySem.W.keepIn X.K (.ref f) = true) (hb : KBinds X.K fd ps ks g gV) (hx : Passes CX X E)
    (hkw : PK X kws tk) (hall : (backToKw pos (keywordEach kws X.env)).all (·.1.isSome) = true := by rfl) (hks : (backToKw pos (keywordEach kws X.env)).filterMap (·.1) = ks := by rfl)
    (hdb : (x == ("__debug__" : Str)) = false := by decide)
    (hpl : ((backTo pos (starEach [] X.env)).any (·.1) || (backToKw pos (keywordEach kws X.env)).any (·.1.isNone)) = false := by rfl) :
    PE X (.Call (.Name x p) [] kws pos) (tCallK sp gV E tNil tk) := by
  refine ⟨fun pins s σ H Q I h => ?_⟩
  refine wpAny_Call_Name_kw (ld_glob I hg hm ?_ hdb)
  refine PySem.W.callWith_KW0 (h₀ := X.base) I.ok.mod.kin hk hall ?_ hpl
  refine thn (hkw.run pos pins s σ H _ I h) fun ws s2 ⟨zs, H2, I2, rz, q2⟩ => ⟨I2.kIn, ?_⟩
  rw [hks]
  exact run_fnk F hr hb hx I2 .nil rz q2
/-- all by keywords, in the parameters' own order -/
def kwG {α : Type} (us ws : List α) : List α := match us with | [] => ws | _ => []
theorem kw_binds {K : PySem.W.Frag} {x qual : Str} {st : Stmt} {f : Addr} {fd : FuncData} {ps : List Str} (F : Fun K x qual st f fd) (h0 : 0 < ps.length)
    (h : ∀ (kV doc pm : Value) (an : Option Addr) (cdv ct : Value) (us : List Value), us.length = ps.length → bindArgs (PySem.W.fnOf x qual (defArgs st) (defBody st) (defScope st) .none kV doc pm an cdv ct) ⟨[], ps.zip us⟩ = pure (ps.zip us)) : KBinds K fd ps ps kwG kwG := by
  obtain ⟨oc, od, kV, doc, pm, an, cdv, ct, osl, rfl, lk, hcd⟩ := F.ex
  refine ⟨fun s us ws _ hl => ?_, fun {vs us zs ws} r1 r2 => ?_⟩
  · cases us with
    | nil => exact .of_eq (h kV doc pm an cdv ct ws hl)
    | cons a t => exact absurd hl (by simp [kwG]; omega)
  · cases r1 with
    | nil => exact r2
    | cons a t => exact .nil
theorem pg_pair {i j : Nat} {x y : Str} {p1 p2 : Pos} {kk : Nat} (hc : X.calm = true) (hN : X.N.Nodup) (hi : X.N[i]? = some x) (hj : X.N[j]? = some y) (hx : Loc X.env.scope x) (hy : Loc X.env.scope y)
    (hf : X.fn x = true ∨ X.env.scope.names.lookup x = some .local := by first | exact .inl rfl | exact .inr rfl | assumption) (hf2 : X.fn y = true ∨ X.env.scope.names.lookup y = some .local := by first | exact .inl rfl | exact .inr rfl | assumption)
    (hn : (assignEach [Expr.Name x p1, .Name y p2] X.env).length = 2 := by rfl) (hst : (assignEach [Expr.Name x p1, .Name y p2] X.env).findIdx? (·.1) = none := by rfl)
    (hs : (assignEach [Expr.Name x p1, .Name y p2] X.env).map (·.2) = assign (.Name x p1) X.env :: (assignEach [Expr.Name y p2] X.env).map (·.2) := by rfl)
    (hs2 : (assignEach [Expr.Name y p2] X.env).map (·.2) = assign (.Name y p2) X.env :: (assignEach [] X.env).map (·.2) := by rfl) :
    PG X (.Tuple [.Name x p1, .Name y p2] kk pos) (gTup X.K 2 (gCons (gName i) (gCons (gName j) gNil))) :=
  pg_tup hc (pgs_cons (pg_name hN hi hx hf) (pgs_cons (pg_name hN hj hy hf2) pgs_nil hs2) hs) hn hst
theorem pe_gint {i : Int} (hg : Gl X x) (hm : ∃ t, X.mg x = some (.int i t)) (hd : (x == ("__debug__" : Str)) = false := by decide) : PE X (.Name x pos) (tC (.int i)) := by
  obtain ⟨t, hm⟩ := hm
  exact pe_glob hg hm ⟨_, rfl⟩ hd
end
theorem call_int1i {X : Cx} : CallR X (.type "int") (fun xs H Q => ∃ i, xs = [.int i] ∧ Q (.int i) H) := fun pins s σ H xs us Q I r h => call_int1 pins s σ H xs us Q I r (.inl h)
theorem call_int1b {X : Cx} : CallR X (.type "int") (fun xs H Q => ∃ k, xs = [.bl k] ∧ Q (.int (if k then 1 else 0)) H) := fun pins s σ H xs us Q I r h => call_int1 pins s σ H xs us Q I r (.inr h)
theorem call_len_list {X : Cx} : CallR X (.builtin "len") (fun xs H Q => ∃ p ys, xs = [.ref p] ∧ SqL X.K H p ys ∧ Q (.int ys.length) H) := fun pins s σ H xs us Q I r ⟨p, ys, e, h, q⟩ => call_len_seq pins s σ H xs us Q I r ⟨p, ys, e, .inl h, q⟩
/-- a goal at which the walker of readings stops -/
structure Stop (p : Prop) : Prop where
  h : p
theorem stop_eq {p : Prop} : Stop p = p := propext ⟨fun q => q.h, fun q => ⟨q⟩⟩
def tForS (wi : TI) (g : TG) (tb : TS) : TS := fun D σ H => wi σ H fun J H1 => Stop (∃ W : Nat → Nat → L2.St → Hp → Prop, (∃ m, W 0 m σ H1) ∧ ∀ i m σ H, W i m σ H →
  (J.stop i H ∧ D.nx σ H) ∨ (J.go i H ∧ ∃ N : L2.St → Hp → Prop, (∀ σ' H', N σ' H' → ∃ m', m' < m ∧ W (i + 1) m' σ' H') ∧ ∀ x H', J.yld i H x H' → g x σ H' fun σ2 H2 => tb { D with nx := N, ct := N, bk := D.nx } σ2 H2))
theorem tForS_eq (wi : TI) (g : TG) (tb : TS) : tForS wi g tb = tFor wi g tb := by
  funext D σ H
  unfold tForS tFor
  simp only [stop_eq]
theorem ps_forS {X : Cx} {tg iter : Expr} {body : List Stmt} {wi : TI} {g : TG} {tb : TS} {pos : Pos} (hp : PassesOwn (model X.prog X.w) X.A X.env X.xe) (hc : X.calm = true) (hi : PI X tg iter wi) (hg : PG X tg g) (hb : PSs X body tb)
    (hs : ∀ x, foldedSetIterable iter X.env x = pure x := by intro _; rfl) : PS X (.For tg iter body [] pos) (tForS wi g tb) := by
  rw [tForS_eq]
  exact ps_for hp hc hi hg hb hs
/-! ### heaps -/
theorem same_upd {H : Hp} {p : Addr} {o : HO} (h : H p = none) : Same H (upd H p o) := fun b u e => by rw [upd_ne (ne_of_none e h)]; exact e
theorem Same.upd {H H1 : Hp} {p : Addr} {o : HO} (s : Same H H1) (h : H1 p = none) : Same H (L2.upd H1 p o) := L2.Same.trans s (same_upd h)
theorem Same.free' {H H1 : Hp} (s : Same H H1) {p : Addr} (h : H1 p = none) : H p = none := L2.Same.free s h
/-- all but a is as it was -/
def But (a : Addr) (H H' : Hp) : Prop := ∀ b o, b ≠ a → H b = some o → H' b = some o
theorem But.refl {a : Addr} (H : Hp) : But a H H := fun _ _ _ h => h
theorem But.trans {a : Addr} {H H1 H2 : Hp} (x : But a H H1) (y : But a H1 H2) : But a H H2 := fun b o n h => y b o n (x b o n h)
theorem But.same {a : Addr} {H H1 : Hp} (x : Same H H1) : But a H H1 := fun b o _ h => x b o h
theorem But.set {a : Addr} {H : Hp} {o : HO} : But a H (upd H a o) := fun b u n h => by rw [upd_ne n]; exact h
theorem But.new {a : Addr} {H H1 : Hp} {p : Addr} {o : HO} (x : But a H H1) (h : H1 p = none) : But a H (upd H1 p o) := x.trans (But.same (same_upd h))
theorem size_le {n : Nat} (h : n ≤ 10000) : n ≤ sizeLine := by rw [sizeLine_eq]; omega
theorem size_lt {n : Nat} (h : n ≤ 10000) : n < sizeLine := by rw [sizeLine_eq]; omega
theorem iteD {c A B : Prop} [Decidable c] (h1 : c → A) (h2 : ¬ c → B) : if decide c = true then A else B := by
  by_cases h : c
  · rw [decide_eq_true h]; exact iteT (h1 h)
  · rw [decide_eq_false h]; exact iteF (h2 h)
theorem iteN {c A B : Prop} [Decidable c] (h1 : ¬ c → A) (h2 : c → B) : if (!decide c) = true then A else B := by
  by_cases h : c
  · rw [decide_eq_true h]; exact iteF (h2 h)
  · rw [decide_eq_false h]; exact iteT (h1 h)
theorem qbl {Q : VK} {b c : Bool} {H : Hp} (k : Q (.bl b) H) (e : c = b) : Q (.bl c) H := e ▸ k
theorem qint {Q : VK} {i j : Int} {H : Hp} (k : Q (.int i) H) (e : j = i) : Q (.int j) H := e ▸ k
theorem same_set {H H1 : Hp} {p : Addr} {o : HO} (s : Same H H1) (n : H p = none) : Same H (upd H1 p o) := fun b u e => by rw [upd_ne (ne_of_none e n)]; exact s b u e
theorem old_upd {H : Hp} {p a : Addr} {o u : HO} (n : H p = none) (h : H a = some u) : upd H p o a = some u := same_upd n _ _ h
theorem SqL.new {K : PySem.W.Frag} {H : Hp} {p a : Addr} {o : HO} {xs : List V} (n : H p = none) (h : SqL K H a xs) : SqL K (upd H p o) a xs := L2.Same.seq (same_upd n) h
theorem tyl_new {K : PySem.W.Frag} {H : Hp} {p a : Addr} {o : HO} {xs : List V} (h : H a = some (.lst xs)) (n : H p = none) : tyV K "list" (.ref a) (upd H p o) := Or.inl ⟨rfl, xs, SqL.of (old_upd n h)⟩
theorem tyl_of {K : PySem.W.Frag} {H : Hp} {a : Addr} {xs : List V} (h : H a = some (.lst xs)) : tyV K "list" (.ref a) H := Or.inl ⟨rfl, xs, SqL.of h⟩
theorem same_at {H H' : Hp} {a : Addr} {u : HO} (s : Same H H') (h : H a = some u) : H' a = some u := s _ _ h
theorem same_trans' {H H1 H2 : Hp} (b : Same H1 H2) (a : Same H H1) : Same H H2 := L2.Same.trans a b
/-! ### comprehensions that keep what stood -/
theorem lc_mapS {K : PySem.W.Frag} {a : Addr} {xs : List V} {g : TG} {te : TE} {vs : List Nat} {σ : L2.St} {H1 : Hp} {D : Addr} {Qd : Hp → Prop} (ys : List V) (ha : SqL K H1 a xs) (hD : H1 D = none) (hl : xs.length = ys.length) (hz : xs.length ≤ 10000)
    (hs : ∀ (i : Nat) (x y : V) (H' : Hp) (Q : VK), xs[i]? = some x → ys[i]? = some y → Same H1 H' → (∀ H'', Same H' H'' → Q y H'') → g x (wipe σ vs) H' fun σ2 H2 => wipe σ2 vs = wipe σ vs ∧ te σ2 H2 Q)
    (hd : ∀ H', Same H1 H' → H' D = some (.lst ys) → Qd H') :
    ∃ W : Nat → Nat → Hp → Prop, (∃ m, W 0 m (upd H1 D (.lst []))) ∧ ∀ i m H, W i m H →
      ((Itl K a).stop i H ∧ Qd H) ∨ ((Itl K a).go i H ∧ ∃ Nx : Hp → Prop, (∀ H', Nx H' → ∃ m', m' < m ∧ W (i + 1) m' H') ∧ ∀ x H', (Itl K a).yld i H x H' → g x (wipe σ vs) H' fun σ2 H2 => wipe σ2 vs = wipe σ vs ∧ tYes σ2 H2 fun b H3 =>
        if b = true then te σ2 H3 fun y H4 => ∃ acc, H4 D = some (.lst acc) ∧ acc.length < sizeLine ∧ Nx (upd H4 D (.lst (acc ++ [y]))) else Nx H3) := by
  refine lc_list (xs := xs) (fun i H => Same H1 H ∧ H D = some (.lst (ys.take i))) ⟨same_upd hD, upd_same⟩ (fun i H _ h => L2.Same.seq h.1 ha) (fun i x H hx h => ?_) (fun H h => hd H h.1 (by rw [h.2, List.take_of_length_le (by omega)]))
  have hi : i < ys.length := by have := (List.getElem?_eq_some_iff.mp hx).1; omega
  refine hs i x ys[i] H _ hx (List.getElem?_eq_getElem hi) h.1 (fun H'' s => ?_)
  refine ⟨ys.take i, s _ _ h.2, size_lt (by simp; omega), same_set (L2.Same.trans h.1 s) hD, ?_⟩
  rw [upd_same, List.take_add_one, List.getElem?_eq_getElem hi]; rfl
theorem lc_mapZ {K : PySem.W.Frag} {a b : Addr} {xs zs : List V} {g : TG} {te : TE} {vs : List Nat} {σ : L2.St} {H1 : Hp} {D : Addr} {Qd : Hp → Prop} (ys : List V) (ha : SqL K H1 a xs) (hb : SqL K H1 b zs) (hD : H1 D = none) (hl : xs.length = ys.length) (hl2 : xs.length = zs.length) (hz : xs.length ≤ 10000)
    (hs : ∀ (i : Nat) (x z y : V) (T : Addr) (H' : Hp) (Q : VK), xs[i]? = some x → zs[i]? = some z → ys[i]? = some y → Same H1 H' → H' T = none → (∀ H'', Same (upd H' T (.tup [x, z])) H'' → Q y H'') → g (.ref T) (wipe σ vs) (upd H' T (.tup [x, z])) fun σ2 H2 => wipe σ2 vs = wipe σ vs ∧ te σ2 H2 Q)
    (hd : ∀ H', Same H1 H' → H' D = some (.lst ys) → Qd H') :
    ∃ W : Nat → Nat → Hp → Prop, (∃ m, W 0 m (upd H1 D (.lst []))) ∧ ∀ i m H, W i m H →
      ((Itz K a b).stop i H ∧ Qd H) ∨ ((Itz K a b).go i H ∧ ∃ Nx : Hp → Prop, (∀ H', Nx H' → ∃ m', m' < m ∧ W (i + 1) m' H') ∧ ∀ x H', (Itz K a b).yld i H x H' → g x (wipe σ vs) H' fun σ2 H2 => wipe σ2 vs = wipe σ vs ∧ tYes σ2 H2 fun b H3 =>
        if b = true then te σ2 H3 fun y H4 => ∃ acc, H4 D = some (.lst acc) ∧ acc.length < sizeLine ∧ Nx (upd H4 D (.lst (acc ++ [y]))) else Nx H3) := by
  refine lc_it (walk_zip (xs := xs) (ys := zs) (n := xs.length) (by omega)) (fun i H => Same H1 H ∧ H D = some (.lst (ys.take i))) ⟨same_upd hD, upd_same⟩ (fun i H _ h => ⟨L2.Same.seq h.1 ha, L2.Same.seq h.1 hb⟩) (fun i x H H' hi h y => ?_) (fun H h => hd H h.1 (by rw [h.2, List.take_of_length_le (by omega)]))
  obtain ⟨T, x', z', rfl, hT, rfl, hx, hz'⟩ := y
  have hi' : i < ys.length := by omega
  refine hs i x' z' ys[i] T H _ hx hz' (List.getElem?_eq_getElem hi') h.1 hT (fun H'' s => ?_)
  refine ⟨ys.take i, s _ _ (old_upd hT h.2), size_lt (by simp; omega), same_set (L2.Same.trans (Same.upd h.1 hT) s) hD, ?_⟩
  rw [upd_same, List.take_add_one, List.getElem?_eq_getElem hi']; rfl
/-! ### two lists of the same ints -/
theorem dp_ints {K : PySem.W.Frag} {H : Hp} : ∀ ns : List Int, DpAll K H (ns.map V.int) (ns.map PyData.int)
  | [] => .nil
  | n :: r => .cons (.int n) (dp_ints r)
theorem sh_ints (ns : List Int) : SeqAt.shaped (.list (ns.map PyData.int)) = true := PySem.W.shaped_ints ns
theorem eqv_ints (ns : List Int) : PyData.eqv (.list (ns.map PyData.int)) (.list (ns.map PyData.int)) = true := SeqAt.eqv_refl _ (SeqAt.canLay_of_shaped (sh_ints ns))
theorem op_eqLI {X : Cx} (hu : X.A.units + 64 < cLine) : OpR X (compareOp .Eq) (fun x y H Q => ∃ (p q : Addr) (ns : List Int), x = .ref p ∧ y = .ref q ∧ SqL X.K H p (ns.map V.int) ∧ SqL X.K H q (ns.map V.int) ∧ Q (.bl true) H) := by
  intro pins s σ H x y v u Q I rx ry ⟨p, q, ns, e1, e2, h1, h2, k⟩
  refine op_eqD hu pins s σ H x y v u Q I rx ry ⟨.list (ns.map PyData.int), .list (ns.map PyData.int), ?_, ?_, ?_, ?_, ?_⟩
  · rw [e1]; exact .lst h1 (dp_ints ns)
  · rw [e2]; exact .lst h2 (dp_ints ns)
  · exact sh_ints ns
  · exact sh_ints ns
  · rw [eqv_ints]; exact k
theorem op_neLI {X : Cx} (hu : X.A.units + 64 < cLine) : OpR X (compareOp .NotEq) (fun x y H Q => ∃ (p q : Addr) (ns : List Int), x = .ref p ∧ y = .ref q ∧ SqL X.K H p (ns.map V.int) ∧ SqL X.K H q (ns.map V.int) ∧ Q (.bl false) H) := by
  intro pins s σ H x y v u Q I rx ry ⟨p, q, ns, e1, e2, h1, h2, k⟩
  refine op_neD hu pins s σ H x y v u Q I rx ry ⟨.list (ns.map PyData.int), .list (ns.map PyData.int), ?_, ?_, ?_, ?_, ?_⟩
  · rw [e1]; exact .lst h1 (dp_ints ns)
  · rw [e2]; exact .lst h2 (dp_ints ns)
  · exact sh_ints ns
  · exact sh_ints ns
  · rw [eqv_ints]; exact k
/-! ### the pot -/
structure Pot (H : Hp) (a : Addr) : Prop where
  ex : ∃ x y : Int, H a = some (.lst [.int x, .int y]) ∧ 0 ≤ x ∧ 0 ≤ y ∧ y < 4294967296
theorem Pot.same {H H' : Hp} {a : Addr} (s : Same H H') (h : Pot H a) : Pot H' a := by
  obtain ⟨x, y, e, r⟩ := h
  exact ⟨x, y, s _ _ e, r⟩
theorem Pot.new {H : Hp} {a p : Addr} {o : HO} (h : Pot H a) (n : H p = none) : Pot (upd H p o) a := h.same (same_upd n)
theorem Pot.ne {H : Hp} {a p : Addr} (h : Pot H a) (n : H p = none) : p ≠ a := by
  obtain ⟨x, y, e, r⟩ := h
  exact fun z => by rw [z, e] at n; cases n
theorem mulw {i j : Int} {a b : Nat} (ha : i.natAbs < 2 ^ a) (hb : j.natAbs < 2 ^ b) (h0 : 0 < a := by decide) (h1 : 0 < b := by decide) (h : a + b ≤ 1000000 := by decide) : CMulW i j := wide_mul ha hb h0 h1 h
theorem mulw64 {i j : Int} (ha : i.natAbs < 18446744073709551616) (hb : j.natAbs < 18446744073709551616) : CMulW i j := wide_mul (a := 64) (b := 64) ha hb (by decide) (by decide) (by decide)
theorem pick_at {xs : List V} {d : Int} (h0 : 0 ≤ d) (h1 : d < xs.length) : ∃ v, atI xs d = some v ∧ v ∈ xs := by
  have hd : d.toNat < xs.length := by omega
  exact ⟨xs[d.toNat], at_of (j := d.toNat) (by omega) (List.getElem?_eq_getElem hd), List.getElem_mem hd⟩
theorem take_fold {α β : Type} {f : β → α → β} {z : β} {l : List α} {i : Nat} {x : α} (h : l[i]? = some x) : (l.take (i + 1)).foldl f z = f ((l.take i).foldl f z) x := by
  rw [List.take_add_one, h, Option.toList_some, List.foldl_append]; rfl
theorem int_get {ns : List Int} {i : Nat} {x : V} (h : (ns.map V.int)[i]? = some x) : ∃ z, x = .int z ∧ ns[i]? = some z := by
  rw [List.getElem?_map] at h
  obtain ⟨z, hz, e⟩ := Option.map_eq_some_iff.mp h
  exact ⟨z, e.symm, hz⟩
/-- called with the pot and how many: a number below that, and the pot is still one -/
def spDraw : Sp := fun vs H Q _ => ∃ (a : Addr) (n : Int), vs = [.ref a, .int n] ∧ Pot H a ∧ 0 < n ∧ n < 1073741824 ∧
  ∀ (d : Int) (H' : Hp), 0 ≤ d → d < n → Pot H' a → But a H H' → Q (.int d) H'
end Hx

set_option Elab.async false
set_option linter.all false
set_option maxRecDepth 100000
set_option maxHeartbeats 4000000
namespace Hx
open PySem PySem.Spec PyProof.Rows L2
/-! ### own rules for objects and errors -/
def kwM {α : Type} (us ws : List α) : List α := match us with | [x] => x :: ws | _ => []
theorem kw_bindsM {K : PySem.W.Frag} {x qual : Str} {st : Stmt} {f : Addr} {fd : FuncData} {ps : List Str} (F : Fun K x qual st f fd) (h0 : 0 < ps.length)
    (h : ∀ (kV doc pm : Value) (an : Option Addr) (cdv ct : Value) (u : Value) (us : List Value), us.length = ps.tail.length → bindArgs (PySem.W.fnOf x qual (defArgs st) (defBody st) (defScope st) .none kV doc pm an cdv ct) ⟨[u], ps.tail.zip us⟩ = pure (ps.zip (u :: us))) : KBinds K fd ps ps.tail kwM kwM := by
  obtain ⟨oc, od, kV, doc, pm, an, cdv, ct, osl, rfl, lk, hcd⟩ := F.ex
  refine ⟨fun s us ws _ hl => ?_, fun {vs us zs ws} r1 r2 => ?_⟩
  · match us, hl with
    | [], hl => exact absurd hl (by simp [kwM]; omega)
    | [u], hl => exact .of_eq (h kV doc pm an cdv ct u ws (by simp [kwM] at hl ⊢; omega))
    | _ :: _ :: _, hl => exact absurd hl (by simp [kwM]; omega)
  · cases r1 with
    | nil => exact .nil
    | cons a t =>
      cases t with
      | nil => exact .cons a r2
      | cons b t => exact .nil
section
variable {X : Cx} {CX : CXT} {k : Nat} {f C : Addr} {fd : FuncData} {ps ks : List Str} {sp : Sp} {E : L2.St → XK} {E1 : XK} {x m : Str} {p pos apos : Pos} {e o : Expr} {es : List Expr} {ta : TE} {t tk : TA} {kws : List Keyword} {g : List Value → List Value → List Value} {gV : List V → List V → List V}
def tMethA (C : Addr) (m : Str) (sp : Sp) (E : L2.St → XK) (ta : TE) (t : TA) : TE := fun σ H Q => ta σ H fun x H1 => ∃ a dx fs, x = .ref a ∧ H1 a = some (.ins C dx fs) ∧ fs.lookup m = none ∧ t σ H1 fun vs H2 => sp (x :: vs) H2 Q (E σ)
/-- o.m(e, ..) that may raise, within a try -/
theorem pe_methA {E : L2.St → XK} {pl : Sem Bool} (he : PE X o ta) (c : Cls X.K C) (hm : Meth X.K C m f) (F : FnOk X.prog X.w X.K X.mg X.base CX k f fd ps sp) (hr : Room k X.A) (hb : Binds X.K fd ps []) (hx : ∀ σ, PassesAt CX X σ (E σ)) (ha : PA X (e :: es) t)
    (hst : starEach (e :: es) X.env = (false, eval e X.env) :: starEach es X.env := by rfl) (hpl : (backTo pos (starEach es X.env)).any (·.1) = false := by rfl)
    (ht : eval (.Call (.Attribute o m apos) (e :: es) [] pos) X.env = (do
      let ov ← eval o X.env
      standAt apos.atName
      let (f, first) ← holding [ov] (getMethod ov m pl)
      callWith pos f first (backTo pos (starEach (e :: es) X.env)) (backToKw pos (keywordEach [] X.env))) := by rfl) :
    PE X (.Call (.Attribute o m apos) (e :: es) [] pos) (tMethA C m sp E ta t) := by
  refine ⟨fun pins s σ H Q I h => ?_⟩
  refine PySem.W.methodCall_KW (pl := pl) (thn (he.run pins s σ H _ I h) fun u s1 ⟨x, H1, I1, rx, a, dx, fs, ex, ea, l, q⟩ => ?_) ht
  subst ex
  obtain rfl : u = Value.ref a := rx
  refine getmeth_ok I1 ea c hm l ?_
  refine PySem.W.callWith_K (first := [.ref a]) (h₀ := X.base) I.ok.mod.kin hm.kp (thn (ha.run pos pins s1 σ H1 _ I1 q) fun us s2 ⟨vs, H2, I2, r, q2⟩ => ⟨I2.kIn, ?_⟩) hst hpl
  exact run_fnS (us := .ref a :: us) (vs := .ref a :: vs) F hr hb (hx σ) I2 (.cons rfl r) q2
def tMethK (C : Addr) (m : Str) (sp : Sp) (gV : List V → List V → List V) (E : XK) (ta : TE) (tk : TA) : TE := fun σ H Q => ta σ H fun x H1 => ∃ a dx fs, x = .ref a ∧ H1 a = some (.ins C dx fs) ∧ fs.lookup m = none ∧ tk σ H1 fun zs H2 => sp (gV [x] zs) H2 Q E
/-- o.m(k=e, ..) -/
theorem pe_methKA {pl : Sem Bool} (he : PE X o ta) (c : Cls X.K C) (hm : Meth X.K C m f) (F : FnOk X.prog X.w X.K X.mg X.base CX k f fd ps sp) (hr : Room k X.A) (hb : KBinds X.K fd ps ks g gV) (hx : Passes CX X E1)
    (hkw : PK X kws tk) (hall : (backToKw pos (keywordEach kws X.env)).all (·.1.isSome) = true := by rfl) (hks : (backToKw pos (keywordEach kws X.env)).filterMap (·.1) = ks := by rfl)
    (hpl : ((backTo pos (starEach [] X.env)).any (·.1) || (backToKw pos (keywordEach kws X.env)).any (·.1.isNone)) = false := by rfl)
    (ht : eval (.Call (.Attribute o m apos) [] kws pos) X.env = (do
      let ov ← eval o X.env
      standAt apos.atName
      let (f, first) ← holding [ov] (getMethod ov m pl)
      callWith pos f first (backTo pos (starEach [] X.env)) (backToKw pos (keywordEach kws X.env))) := by rfl) :
    PE X (.Call (.Attribute o m apos) [] kws pos) (tMethK C m sp gV E1 ta tk) := by
  refine ⟨fun pins s σ H Q I h => ?_⟩
  refine PySem.W.methodCall_KW (pl := pl) (thn (he.run pins s σ H _ I h) fun u s1 ⟨x, H1, I1, rx, a, dx, fs, ex, ea, l, q⟩ => ?_) ht
  subst ex
  obtain rfl : u = Value.ref a := rx
  refine getmeth_ok I1 ea c hm l ?_
  refine PySem.W.callWith_KW0 (first := [.ref a]) (h₀ := X.base) I.ok.mod.kin hm.kp hall ?_ hpl
  refine thn (hkw.run pos pins s1 σ H1 _ I1 q) fun ws s2 ⟨zs, H2, I2, rz, q2⟩ => ⟨I2.kIn, ?_⟩
  rw [hks]
  exact run_fnk (us := [.ref a]) (vs := [.ref a]) F hr hb hx I2 (.cons rfl .nil) rz q2
theorem PI.or {tg iter : Expr} {w1 w2 : TI} (h1 : PI X tg iter w1) (h2 : PI X tg iter w2) : PI X tg iter (fun σ H R => w1 σ H R ∨ w2 σ H R) := ⟨fun pins s σ H R I h => h.elim (h1.run pins s σ H R I) (h2.run pins s σ H R I)⟩
end
theorem exm_self {K : PySem.W.Frag} {S : Addr} (h1 : PySem.W.subIn K (.ref S) (.type "BaseException") = some true) (h2 : PySem.W.isClsIn K S = true) (h3 : PySem.W.typeIn K (.ref S) = some (.type "type")) (h4 : PySem.W.subIn K (.ref S) (.ref S) = some true) :
    PySem.W.exmOne K (.ref S) (.ref S) = some true := by
  have e1 : (PySem.W.subIn K (.ref S) (.type "BaseException") == some true) = true := by rw [h1] <;> rfl
  have e2 : ((PySem.W.clsIn K S).isSome && PySem.W.typeIn K (.ref S) == some (.type "type")) = true := by
    have h2' : (PySem.W.clsIn K S).isSome = true := h2
    rw [h2', h3] <;> rfl
  show (if (PySem.W.subIn K (.ref S) (.type "BaseException") == some true) = true then (if ((PySem.W.clsIn K S).isSome && PySem.W.typeIn K (.ref S) == some (.type "type")) = true then PySem.W.subIn K (.ref S) (.ref S) else none) else none) = some true
  rw [if_pos e1, if_pos e2]
  exact h4
def tStop (t : TS) : TS := fun D σ H => t { D with nx := fun σ H => Stop (D.nx σ H) } σ H
theorem ps_stop {X : Cx} {st : Stmt} {t : TS} (h : PS X st t) : PS X st (tStop t) := by
  have e : tStop t = t := by
    funext D σ H
    unfold tStop
    simp only [stop_eq]
  rw [e]
  exact h
theorem lc_mapT {K : PySem.W.Frag} {a : Addr} {xs : List V} {g : TG} {te : TE} {vs : List Nat} {σ : L2.St} {H1 : Hp} {D : Addr} {Qd : Hp → Prop} (ys : List V) (ha : SqT K H1 a xs) (hD : H1 D = none) (hl : xs.length = ys.length) (hz : xs.length ≤ 10000)
    (hs : ∀ (i : Nat) (x y : V) (H' : Hp) (Q : VK), xs[i]? = some x → ys[i]? = some y → Same H1 H' → (∀ H'', Same H' H'' → Q y H'') → g x (wipe σ vs) H' fun σ2 H2 => wipe σ2 vs = wipe σ vs ∧ te σ2 H2 Q)
    (hd : ∀ H', Same H1 H' → H' D = some (.lst ys) → Qd H') :
    ∃ W : Nat → Nat → Hp → Prop, (∃ m, W 0 m (upd H1 D (.lst []))) ∧ ∀ i m H, W i m H →
      ((Itt K a).stop i H ∧ Qd H) ∨ ((Itt K a).go i H ∧ ∃ Nx : Hp → Prop, (∀ H', Nx H' → ∃ m', m' < m ∧ W (i + 1) m' H') ∧ ∀ x H', (Itt K a).yld i H x H' → g x (wipe σ vs) H' fun σ2 H2 => wipe σ2 vs = wipe σ vs ∧ tYes σ2 H2 fun b H3 =>
        if b = true then te σ2 H3 fun y H4 => ∃ acc, H4 D = some (.lst acc) ∧ acc.length < sizeLine ∧ Nx (upd H4 D (.lst (acc ++ [y]))) else Nx H3) := by
  refine lc_tup (xs := xs) (fun i H => Same H1 H ∧ H D = some (.lst (ys.take i))) ⟨same_upd hD, upd_same⟩ (fun i H _ h => ha.elim (fun r => r.elim (fun e => .inl (.inl (h.1 _ _ e))) (fun ⟨o, e⟩ => .inl (.inr ⟨o, h.1 _ _ e⟩))) .inr) (fun i x H hx h => ?_) (fun H h => hd H h.1 (by rw [h.2, List.take_of_length_le (by omega)]))
  have hi : i < ys.length := by have := (List.getElem?_eq_some_iff.mp hx).1; omega
  refine hs i x ys[i] H _ hx (List.getElem?_eq_getElem hi) h.1 (fun H'' s => ?_)
  refine ⟨ys.take i, s _ _ h.2, size_lt (by simp; omega), same_set (L2.Same.trans h.1 s) hD, ?_⟩
  rw [upd_same, List.take_add_one, List.getElem?_eq_getElem hi]; rfl
/-! ### two things of the same data -/
def FlatD (n : Nat) (d : PyData) : Prop := d.canLay0 = true ∧ d.depth ≤ n
theorem flat_all {n : Nat} : ∀ ds : List PyData, (∀ d ∈ ds, FlatD n d) → PyData.canLayAll0 ds = true ∧ PyData.depthAll ds ≤ n
  | [], _ => by simp [PyData.canLayAll0, PyData.depthAll]
  | d :: r, h => by
    have i := flat_all r fun x hx => h x (List.mem_cons_of_mem _ hx)
    have j := h d List.mem_cons_self
    unfold FlatD at j
    simp only [PyData.canLayAll0, PyData.depthAll, j.1, i.1, Bool.and_self, true_and]
    omega
theorem flat_list {n : Nat} {ds : List PyData} (h : ∀ d ∈ ds, FlatD n d) : FlatD (n + 1) (.list ds) := by
  have i := flat_all ds h
  exact ⟨by simp only [PyData.canLay0]; exact i.1, by simp only [PyData.depth]; omega⟩
theorem flat_tup {n : Nat} {ds : List PyData} (h : ∀ d ∈ ds, FlatD n d) : FlatD (n + 1) (.tuple ds) := by
  have i := flat_all ds h
  exact ⟨by simp only [PyData.canLay0]; exact i.1, by simp only [PyData.depth]; omega⟩
theorem flat_int (n : Nat) (i : Int) : FlatD n (.int i) := ⟨by simp [PyData.canLay0], by simp [PyData.depth]⟩
theorem flat_sh {n : Nat} {d : PyData} (h : FlatD n d) (hn : n ≤ 64 := by decide) : SeqAt.shaped d = true := by
  show (PyData.canLay0 d && decide (PyData.depth d ≤ 64)) = true
  rw [Bool.and_eq_true]
  exact ⟨h.1, decide_eq_true (Nat.le_trans h.2 hn)⟩
theorem op_eqS {X : Cx} (hu : X.A.units + 64 < cLine) : OpR X (compareOp .Eq) (fun x y H Q => ∃ d, Dp X.K H x d ∧ Dp X.K H y d ∧ SeqAt.shaped d = true ∧ Q (.bl true) H) := by
  intro pins s σ H x y v u Q I rx ry ⟨d, h1, h2, hs, k⟩
  refine op_eqD hu pins s σ H x y v u Q I rx ry ⟨d, d, h1, h2, hs, hs, ?_⟩
  rw [SeqAt.eqv_refl d (SeqAt.canLay_of_shaped hs)]; exact k
theorem op_neS {X : Cx} (hu : X.A.units + 64 < cLine) : OpR X (compareOp .NotEq) (fun x y H Q => ∃ d, Dp X.K H x d ∧ Dp X.K H y d ∧ SeqAt.shaped d = true ∧ Q (.bl false) H) := by
  intro pins s σ H x y v u Q I rx ry ⟨d, h1, h2, hs, k⟩
  refine op_neD hu pins s σ H x y v u Q I rx ry ⟨d, d, h1, h2, hs, hs, ?_⟩
  rw [SeqAt.eqv_refl d (SeqAt.canLay_of_shaped hs)]; exact k
/-- the only error's __init__: self.value = value -/
def spEI (C : Addr) : Sp := fun vs H Q _ => ∃ (a : Addr) (v : V), vs = [.ref a, v] ∧ H a = some (exo a C none) ∧ ∀ dx, H dx = none → dx ≠ a → Q .non (upd (upd H dx (exd dx [("value", v)])) a (exo a C (some dx)))
theorem ei_same {H : Hp} {a dx C : Addr} {fs : List (Str × V)} {o u : HO} (ha : H a = none) (hd : upd H a o dx = none) (ne : dx ≠ a) :
    Same H (upd (del (upd (upd (upd H a o) dx u) a (exo a C (some dx))) a) dx (.xd fs)) := fun b v e => by
  have n1 : b ≠ a := ne_of_none e ha
  have n2 : b ≠ dx := by
    intro z
    rw [z] at e
    rw [upd_ne ne] at hd
    rw [hd] at e
    cases e
  rw [upd_ne n2, del_ne n1, upd_ne n1, upd_ne n2, upd_ne n1]
  exact e
end Hx

set_option Elab.async false
set_option linter.all false
set_option maxRecDepth 100000
set_option maxHeartbeats 4000000
namespace Hx
open PySem PySem.Spec PyProof.Rows L2
/-! ### promises of defs under which no repr is under way -/
/-- as FnOk, for calls around which nothing is being written out -/
structure FnG (P : Program) (w : World) (K : PySem.W.Frag) (mg : Str → Option Value) (base : Heap) (k : Nat) (f : Addr) (fd : FuncData) (ps : List Str) (sp : Sp) : Prop where
  len : ∀ vs H Q E, sp vs H Q E → vs.length = ps.length
  run : ∀ (A : Around) (outer : List Env) (s : Shared) (H : Hp) (args : Args) (us : List Value) (vs : List V) (Q : VK) (E : XK), A.guards = some [] → Room k A → Env0 P w K mg base A outer s H → BindsTo s fd args (ps.zip us) → Vals vs us → sp vs H Q E →
    codeAny (model P w) A (.call (.ref f) args) (CR CX0 outer P w H s Q E) s
theorem FnG.mono {P : Program} {w : World} {K : PySem.W.Frag} {mg : Str → Option Value} {base : Heap} {j k : Nat} {f : Addr} {fd : FuncData} {ps : List Str} {sp : Sp} (F : FnG P w K mg base j f fd ps sp) (h : j ≤ k) : FnG P w K mg base k f fd ps sp :=
  ⟨F.len, fun A o s H a us vs Q E g r => F.run A o s H a us vs Q E g (r.mono h)⟩
theorem fnG {P : Program} {w : World} {K : PySem.W.Frag} {mg : Str → Option Value} {base : Heap} {x qual : Str} {st : Stmt} {f : Addr} {fd : FuncData} {N ps : List Str} {k : Nat} {sp : Sp} (F : Fun K x qual st f fd) (S : FnScope N ps (defScope st)) (len : ∀ vs H Q E, sp vs H Q E → vs.length = ps.length)
    (hbody : ∀ (cdv : Value) (A : Around) (outer : List Env) (s : Shared) (H : Hp) (vs : List V) (Q : VK) (E : XK), Room k (A.deeper (envOfC qual (defScope st) s.heap.objs.size f cdv)) → (A.deeper (envOfC qual (defScope st) s.heap.objs.size f cdv)).guards = some [] → sp vs H Q E →
      ∃ t, PSs (cxOf CX0 P w K mg base N qual (defScope st) f cdv A outer s H E).nox (defBody st) t ∧ t { nx := fun _ H' => Q .non H', rt := Q } (start N vs) H) : FnG P w K mg base (k + 1) f fd ps sp := by
  obtain ⟨oc, od, kV, doc, pm, an, cdv, ct, osl, rfl, lk, hcd⟩ := F.ex
  constructor
  · exact len
  intro A outer s H args us vs Q E hg hr e0 hb r hsp
  have old := fun b o e => (e0.bs b o e).1
  have KX := e0.mod.kin.keeps old
  have lim := e0.mod.nolimit.keeps old
  apply codeAny_call_function hr.depth (KX _ _ lk) rfl S.co S.gen rfl (PySem.W.codeRec_of KX hcd)
  apply hb
  apply wpAny_newFunctionEnv_cells S.kind
  · intro y hy
    exact (S.par y.1 (List.of_mem_zip hy).1).imp id fun q => ⟨q, PySem.W.cellsFrom_some _ _ _ (.inl q)⟩
  intro env he s1 x
  subst he
  refine ⟨lim.keeps x.toInCall.keep, codeAny_func ?_⟩
  obtain ⟨t, ht, hq⟩ := hbody cdv A outer s H vs Q E (hr.deeper _) hg hsp
  have I := inv_start (CX := CX0) (E := E) (base := base) S hr.hd e0 (len _ _ _ _ hsp) r x
  refine wpAny_mono (ht.nox.run [] s1 _ H _ I hq) (fun fl s' hs => ?_) fun e s' hs => hs
  match fl, hs with
  | .ret u, ⟨v, _, H', J, rv, q⟩ => exact ⟨v, H', J.os, J.bare, J.base, J.hok, rv, q⟩
  | .next, ⟨_, H', J, q⟩ => exact ⟨V.non, H', J.os, J.bare, J.base, J.hok, rfl, q⟩
  | .brk, ⟨_, _, _, q⟩ => exact q.elim
  | .cont, ⟨_, _, _, q⟩ => exact q.elim
section
variable {X : Cx} {k : Nat} {f : Addr} {fd : FuncData} {ps : List Str} {sp : Sp} {E : XK} {x : Str} {p pos : Pos} {e : Expr} {es : List Expr} {t : TA}
/-- f(e, ..) of such a def -/
theorem pe_callG (hu : X.A.guards = some []) (F : FnG X.prog X.w X.K X.mg X.base k f fd ps sp) (hr : Room k X.A) (hg : Gl X x) (hm : X.mg x = some (.ref f)) (hk : PySem.W.keepIn X.K (.ref f) = true) (hb : Binds X.K fd ps [])
    (ha : PA X (e :: es) t) (hdb : (x == ("__debug__" : Str)) = false := by decide) (he : starEach (e :: es) X.env = (false, eval e X.env) :: starEach es X.env := by rfl) (hpl : (backTo pos (starEach es X.env)).any (·.1) = false := by rfl) :
    PE X (.Call (.Name x p) (e :: es) [] pos) (tCall sp [] E t) := by
  constructor
  intro pins s σ H Q I h
  apply wpAny_Call_Name_kw (ld_glob I hg hm ?_ hdb)
  refine PySem.W.callWith_K (h₀ := X.base) I.ok.mod.kin hk (thn (ha.run pos pins s σ H _ I h) fun us s1 ⟨vs, H1, I1, r, q⟩ => ⟨I1.kIn, ?_⟩) he hpl
  have q : sp (vs ++ []) H1 Q E := q
  rw [List.append_nil] at q
  have hl : us.length = ps.length := by rw [← r.length]; exact F.len _ _ _ _ q
  have b := hb s1 us I1.kIn (by rw [List.append_nil]; exact hl)
  rw [List.append_nil] at b
  refine wpAny_call (codeAny_mono (F.run X.A X.stack s1 H1 ⟨us, []⟩ us vs Q E hu hr I1.env0 b r q) fun r s' hq => ?_)
  match r, hq with
  | .ok (.ret u), hq => exact I1.after hq
  | .error e, hq => exact False.elim hq
  | .ok .next, hq => exact False.elim hq
  | .ok .brk, hq => exact False.elim hq
  | .ok .cont, hq => exact False.elim hq
/-- repr of a list, a tuple, of things that show -/
theorem call_reprG (hg : X.A.guards = some []) (hr : Room 0 X.A) : CallR X (.builtin "repr") (fun xs H Q => ∃ (a : Addr) (d : PyData), xs = [.ref a] ∧ Dp X.K H (.ref a) d ∧ d.showable = true ∧ d.hasDict = false ∧ d.depth ≤ 64 ∧ d.shown.length ≤ sizeLine ∧ Q (.str d.shown) H) := by
  intro pins s σ H xs us Q I r h
  obtain ⟨a, d, rfl, hd, hs, hn, hp, hz, q⟩ := h
  rw [Vals.ref1 r]
  obtain ⟨as, hR⟩ := Dp.reads I d _ (.ref a) hd rfl
  have hu := hr.un
  exact repr_of_reads' hR hs (fun z => by rw [hn] at z; cases z) hg (by omega) (fun _ _ e => e) (fun h' u tk hk => ⟨.str _, H, I.kept hk, ⟨_, rfl⟩, q⟩) hz
end
theorem call_repr_bl {X : Cx} : CallR X (.builtin "repr") (fun xs H Q => ∃ b : Bool, xs = [.bl b] ∧ Q (.str (if b then "True" else "False")) H) := by
  intro pins s σ H xs us Q I r h
  obtain ⟨b, rfl, q⟩ := h
  cases r with
  | cons ru rn =>
    cases rn
    cases ru
    exact PySem.P.repr_of_bool ⟨.str _, H, I.tok _, ⟨_, rfl⟩, q⟩
/-! ### the head's call of such a law -/
theorem law_callG {P : Program} {w : World} {K : PySem.W.Frag} {mg mb : Str → Option Value} {k : Nat} {fa a : Addr} {fd : FuncData} {x : Str} {sp : Sp} {s : Shared} {vs : List Value} {ns : List Int}
    (KX : K.In s.heap) (hns : s.heap.Ns mainGlobals mg) (hb : s.heap.Ns builtinsNs mb) (hbb : ∀ x : Str, x ≠ "__name__" → mb x = bootBuiltins x) (hlim : s.heap.NoLimit) (hg : s.gens = #[])
    (ha : s.heap.get? a = some { cls := .type "list", data := .seq vs.toArray }) (hi : IntsAre vs ns) (hl : ns.length ≤ sizeLine) (hr : Room k callerA)
    (F : ∀ base : Heap, K.In base → base.Ns mainGlobals mg → FnG P w K mg base k fa fd [x] sp) (hbind : ∀ (s : Shared) (u : Value), BindsTo s fd ⟨[u], []⟩ [(x, u)])
    (hsp : ∀ H : Hp, Only H → SqL K H a (ns.map V.int) → sp [.ref a] H (fun v _ => v = .bl true) fun _ _ _ => False) :
    codeAny (model P w) callerA (.call (.ref fa) ⟨[.ref a], []⟩) (fun r s' => r = .ok (.ret (.bool true)) ∧ OldK s.heap s'.heap ∧ s'.os = s.os ∧ AllBare s'.gens) s := by
  let fz : HO := .frz { cls := .type "list", data := .seq vs.toArray } (.lst (ns.map V.int))
  let H : Hp := fun b => if b = a ∧ K.lookup a = none then some fz else none
  have rv := vals_ints hi
  have hH : ∀ {b : Addr} {u : HO}, H b = some u → b = a ∧ K.lookup a = none ∧ u = fz := fun {b u} z => by
    by_cases q : b = a ∧ K.lookup a = none
    · have z' := (if_pos q).symm.trans z
      exact ⟨q.1, q.2, (Option.some.inj z').symm⟩
    · have z' := (if_neg q).symm.trans z
      cases z'
  have hO : Only H := fun b => by
    by_cases q : b = a ∧ K.lookup a = none
    · exact .inr ⟨_, _, if_pos q⟩
    · exact .inl (if_neg q)
  have hok : HOk P w H s.heap := fun b u z => by
    obtain ⟨rfl, _, rfl⟩ := hH z
    exact ⟨ha, by rw [List.length_map]; exact hl, vs, _, rv, ha⟩
  have hS : SqL K H a (ns.map V.int) := by
    cases hk : K.lookup a with
    | some o =>
      have e := KX a o hk
      rw [ha] at e
      cases e
      exact .inr ⟨_, vs.toArray, _, hk, rfl, rfl, rfl, by rw [List.size_toArray, hi.length]; exact hl, by simpa using rv⟩
    | none => exact .inl (.inr ⟨_, if_pos ⟨rfl, hk⟩⟩)
  have hid : ∀ {b : Addr} {o : Obj}, s.heap.get? b = some o → (b = a → K.lookup a = none → False) → (hidT s.heap H).get? b = some o := fun {b o} e n => hidT_get e (by
    cases q : H b with
    | none => rfl
    | some u => exact (n (hH q).1 (hH q).2.1).elim)
  have nsK : ∀ {b : Addr} {m : Str → Option Value}, s.heap.Ns b m → (hidT s.heap H).Ns b m := fun {b m} ⟨o, es, ep, e, d, r⟩ => ⟨o, es, ep, hid e (fun z _ => by
    subst z
    rw [ha] at e
    cases e
    have d' : Data.seq vs.toArray _ = Data.dict es ep := d
    cases d'), d, r⟩
  have hKb : K.In (hidT s.heap H) := fun b o e => hid (KX b o e) fun z n => by
    subst z
    rw [n] at e
    cases e
  have e0 : Env0 P w K mg (hidT s.heap H) callerA [] s H := ⟨rfl, ⟨hKb, nsK hns, ⟨mb, nsK hb, hbb⟩, hlim.elim fun mc h => ⟨mc, nsK h.1, h.2⟩⟩, fun b o e => of_hidT e, Nat.le_of_eq (hidT_size _ _), trivial, fun b hb => absurd hb List.not_mem_nil, hok, .of_eq hg⟩
  refine codeAny_mono ((F _ hKb (nsK hns)).run callerA [] s H ⟨[.ref a], []⟩ [.ref a] [.ref a] _ _ rfl hr e0 (hbind s (.ref a)) (.cons rfl .nil) (hsp H hO hS)) fun r s' h => ?_
  match r, h with
  | .error e, h => exact h.elim
  | .ok .next, h => exact False.elim h
  | .ok .brk, h => exact False.elim h
  | .ok .cont, h => exact False.elim h
  | .ok (.ret u), ⟨v, H', os, bare, un, hok', r', q⟩ =>
    obtain rfl : v = .bl true := q
    obtain rfl : u = Value.bool true := r'
    refine ⟨rfl, OldK.of_keep fun b o e => ?_, os, bare⟩
    cases q : H b with
    | none => exact un.keep b o e q (fun z => List.not_mem_nil z) List.not_mem_nil
    | some u =>
      obtain ⟨rfl, _, rfl⟩ := hH q
      obtain ⟨e1, _⟩ := hok _ _ q
      obtain ⟨e2, _⟩ := hok' _ _ (un.frzs _ _ _ q)
      rw [e] at e1
      cases e1
      exact e2
theorem walk_ofG {l : PySem.W.OpenLaw} {n k : Nat} {q : Program} {loose : List Str} {XP : (Str → Option Value) → Heap → Prop} {YP : World → Heap → Prop} {d : DefRec} {K : Params → PySem.W.Frag} {sp : World → Sp} {x : Str}
    (hn : l.most = some n) (hn2 : n ≤ sizeLine) (hdf : d.params.defaults = []) (hr : Room k callerA)
    (hY : ∀ (w : World) (h : Heap), YP w h → (K w.params).In h)
    (F : ∀ (w : World) (mg : Str → Option Value) (fa : Addr) (h : Heap), (K w.params).In h → h.Ns mainGlobals mg → mg d.name = some (.ref fa) →
      ∃ fd : FuncData, (∀ (s : Shared) (u : Value), BindsTo s fd ⟨[u], []⟩ [(x, u)]) ∧ ∀ base : Heap, (K w.params).In base → base.Ns mainGlobals mg → FnG l.prog w (K w.params) mg base k fa fd [x] (sp w))
    (hsp : ∀ (w : World) (H : Hp) (a : Addr) (ns : List Int), ns.length ≤ n → Only H → SqL (K w.params) H a (ns.map V.int) → sp w [.ref a] H (fun v _ => v = .bl true) fun _ _ _ => False) :
    PySem.W.WalkO q loose XP YP l.row.toRowW d [] (fun f vs => PySem.call f vs) := by
  apply Att.attach_call hn hdf
  intro w s₀ s₁ mg mb fa o pm cd doc a vs ns G Y ho hd hcd hmg hobj hints hlen hg
  obtain ⟨fd, hb, hF⟩ := F w mg fa _ (hY w _ Y) G.T.g hmg
  exact law_callG (hY w _ Y) G.T.g G.T.b G.T.builtins G.T.nolimit hg hobj hints (Nat.le_trans hlen hn2) hr hF hb fun H hO hS => hsp w H a ns hlen hO hS
end Hx

set_option Elab.async false
set_option linter.all false
set_option maxRecDepth 100000
set_option maxHeartbeats 4000000
namespace Hx
open PySem PySem.Spec PyProof.Rows L2
/-- x == y by the class's own ==, whatever it answers -/
theorem op_eqOwn {X : Cx} {n : Nat} {C f : Addr} {fd : FuncData} {ps : List Str} {sp : Sp} (F : FnOk X.prog X.w X.K X.mg X.base CX0 n f fd ps sp) (hr : Room n X.A)
    (hs : PySem.W.findIn X.K (.ref C) "__eq__" = some (some (.ref f))) (hf : PySem.W.isFn X.K (.ref f) = true) (hb : Binds X.K fd ps []) :
    OpR X (compareOp .Eq) (fun x y H Q => ∃ a b dx dy fs gs, x = .ref a ∧ y = .ref b ∧ H a = some (.ins C dx fs) ∧ H b = some (.ins C dy gs) ∧ sp [.ref a, .ref b] H (fun v H' => ∃ c, v = .bl c ∧ Q (.bl c) H') (fun _ _ _ => False)) := by
  intro pins s σ H x y v u Q I rx ry h
  obtain ⟨a, b, dx, dy, fs, gs, rfl, rfl, ha, hb', hsp⟩ := h
  cases rx
  cases ry
  obtain ⟨mA, J, _⟩ := ins_get I.hok ha
  obtain ⟨mB, J', _⟩ := ins_get I.hok hb'
  obtain ⟨od, J, _⟩ := J.look
  obtain ⟨od', J', _⟩ := J'.look
  obtain ⟨m, hF⟩ := I.fr
  have hu := hr.un
  refine PySem.W.cmp_K (op := .Eq) (tb := .ref C) (by omega) hF I.ok.mod.kin J J'.type (by simp [PySem.W.notFirst]) hs hf ?_
  have hl := F.len _ _ _ _ hsp
  have r2 : Vals [V.ref a, V.ref b] [Value.ref a, Value.ref b] := .cons rfl (.cons rfl .nil)
  have hB : BindsTo s fd ⟨[.ref a, .ref b], []⟩ (ps.zip [.ref a, .ref b]) := by
    have := hb s [.ref a, .ref b] I.kIn (by simpa using hl)
    simpa using this
  refine wpAny_call (codeAny_mono (F.run X.A X.stack s H ⟨[.ref a, .ref b], []⟩ [.ref a, .ref b] [.ref a, .ref b] _ _ hr I.env0 hB r2 hsp) fun r s' hq => ?_)
  match r, hq with
  | .ok (.ret w), hq =>
    obtain ⟨z, H', I', rz, c, rfl, q⟩ := I.after hq
    cases rz
    exact ⟨.bl c, H', I', rfl, q⟩
  | .error e, hq => exact False.elim hq
  | .ok .next, hq => exact False.elim hq
  | .ok .brk, hq => exact False.elim hq
  | .ok .cont, hq => exact False.elim hq
/-! ### how long the text of whole numbers is -/
theorem text_le : ∀ (ts : List Str) (k : Nat) (acc : Str), (textFrom k acc ts).length ≤ acc.length + piled ts
  | [], _, acc => Nat.le_add_right _ _
  | t :: r, k, acc => by
    have ih := text_le r (k + 1) (acc ++ (if k > 0 then ", " else "" : String) ++ t)
    have e : (acc ++ (if k > 0 then ", " else "" : String) ++ t).length ≤ acc.length + 2 + t.length := by
      rw [strLen_append, strLen_append]
      split
      · exact Nat.le_refl _
      · exact Nat.add_le_add_right (Nat.add_le_add_left (Nat.zero_le 2) _) _
    show (textFrom (k + 1) _ r).length ≤ _
    rw [piled_cons]; omega
theorem piled_words : ∀ ns : List Int, (∀ n ∈ ns, 0 ≤ n ∧ n < 10 ^ 20) → piled (PyData.shownAll (ns.map PyData.int)) ≤ 22 * ns.length
  | [], _ => Nat.le_refl _
  | n :: r, h => by
    have i := piled_words r fun x hx => h x (List.mem_cons_of_mem _ hx)
    have j := toString_length_le (h n List.mem_cons_self).1 (by decide : 0 < 20) (h n List.mem_cons_self).2
    rw [List.map_cons, PyData.shownAll, piled_cons, PyData.shown, List.length_cons]
    omega
theorem words_dict : ∀ ns : List Int, PyData.hasDictAll (ns.map PyData.int) = false
  | [] => rfl
  | n :: r => by rw [List.map_cons, PyData.hasDictAll, PyData.hasDict, words_dict r] <;> rfl
theorem log_small {n : Int} (h : 0 ≤ n ∧ n < 10 ^ 20) : n.natAbs.log2 < 1920 := by
  by_cases z : n.natAbs = 0
  · rw [z]; decide
  · refine Nat.lt_trans (m := 67) ?_ (by decide)
    rw [Nat.log2_lt z]
    omega
theorem words_show : ∀ ns : List Int, (∀ n ∈ ns, 0 ≤ n ∧ n < 10 ^ 20) → PyData.showableAll (ns.map PyData.int) = true
  | [], _ => rfl
  | n :: r, h => by
    rw [List.map_cons, PyData.showableAll, PyData.showable, words_show r fun x hx => h x (List.mem_cons_of_mem _ hx), decide_eq_true (log_small (h n List.mem_cons_self))] <;> rfl
theorem words_depth : ∀ ns : List Int, PyData.depthAll (ns.map PyData.int) = 0
  | [] => by simp [PyData.depthAll]
  | n :: r => by simp [PyData.depthAll, PyData.depth, words_depth r]
/-- a list of words: all that repr asks -/
theorem shown_words {ns : List Int} (h : ∀ n ∈ ns, 0 ≤ n ∧ n < 10 ^ 20) (hl : ns.length ≤ 400) : (PyData.list (ns.map PyData.int)).showable = true ∧ (PyData.list (ns.map PyData.int)).hasDict = false ∧ (PyData.list (ns.map PyData.int)).depth ≤ 64 ∧ (PyData.list (ns.map PyData.int)).shown.length ≤ sizeLine := by
  refine ⟨by rw [PyData.showable]; exact words_show ns h, by rw [PyData.hasDict]; exact words_dict ns, by rw [PyData.depth, words_depth]; decide, ?_⟩
  rw [PyData.shown]
  have a := text_le (PyData.shownAll (ns.map PyData.int)) 0 "["
  have b := piled_words ns h
  show (textFrom 0 "[" _ ++ "]").length ≤ _
  rw [strLen_append, sizeLine_eq]
  have e : (("[" : String) : Str).length = 1 := rfl
  have e2 : (("]" : String) : Str).length = 1 := rfl
  rw [e] at a
  rw [e2]
  omega
/-! ### o.m(b=.., a=..) of two, in the other sequence -/
def kwR {α : Type} (us ws : List α) : List α := match us, ws with | [x], [b, a] => [x, a, b] | _, _ => []
theorem kw_bindsR {K : PySem.W.Frag} {x qual : Str} {st : Stmt} {f : Addr} {fd : FuncData} {ps : List Str} {p0 p1 p2 : Str} (F : Fun K x qual st f fd) (hp : ps = [p0, p1, p2])
    (h : ∀ (kV doc pm : Value) (an : Option Addr) (cdv ct : Value) (u a b : Value), bindArgs (PySem.W.fnOf x qual (defArgs st) (defBody st) (defScope st) .none kV doc pm an cdv ct) ⟨[u], [(p2, b), (p1, a)]⟩ = pure [(p0, u), (p1, a), (p2, b)]) : KBinds K fd ps [p2, p1] kwR kwR := by
  obtain ⟨oc, od, kV, doc, pm, an, cdv, ct, osl, rfl, lk, hcd⟩ := F.ex
  subst hp
  refine ⟨fun s us ws _ hl => ?_, fun {vs us zs ws} r1 r2 => ?_⟩
  · match us, ws, hl with
    | [u], [b, a], _ => exact .of_eq (h kV doc pm an cdv ct u a b)
    | [], _, hl => simp [kwR] at hl
    | [_], [], hl => simp [kwR] at hl
    | [_], [_], hl => simp [kwR] at hl
    | [_], _ :: _ :: _ :: _, hl => simp [kwR] at hl
    | _ :: _ :: _, _, hl => simp [kwR] at hl
  · cases r1 with
    | nil => exact .nil
    | cons a t =>
      cases t with
      | cons b t => exact .nil
      | nil =>
        cases r2 with
        | nil => exact .nil
        | cons b r2 =>
          cases r2 with
          | nil => exact .nil
          | cons c r2 =>
            cases r2 with
            | nil => exact .cons a (.cons c (.cons b .nil))
            | cons _ _ => exact .nil
/-! ### a list of ints beside the empty one -/
theorem eqv_nil (ns : List Int) : PyData.eqv (.list (ns.map PyData.int)) (.list []) = ns.isEmpty := by
  cases ns with
  | nil => exact eqv_ints []
  | cons a r => simp [PyData.eqv, PyData.eqvAll]
theorem op_neNil {X : Cx} (hu : X.A.units + 64 < cLine) : OpR X (compareOp .NotEq) (fun x y H Q => ∃ (p q : Addr) (ns : List Int), x = .ref p ∧ y = .ref q ∧ SqL X.K H p (ns.map V.int) ∧ SqL X.K H q [] ∧ Q (.bl (!ns.isEmpty)) H) := by
  intro pins s σ H x y v u Q I rx ry ⟨p, q, ns, e1, e2, h1, h2, k⟩
  refine op_neD hu pins s σ H x y v u Q I rx ry ⟨.list (ns.map PyData.int), .list [], ?_, ?_, ?_, ?_, ?_⟩
  · rw [e1]; exact .lst h1 (dp_ints ns)
  · rw [e2]; exact .lst h2 .nil
  · exact sh_ints ns
  · exact sh_ints []
  · rw [eqv_nil]; exact k
end Hx

set_option Elab.async false
set_option linter.all false
set_option maxRecDepth 100000
set_option maxHeartbeats 4000000
namespace Hx
open PySem PySem.Spec PyProof.Rows L2
/-! ### lists of pairs of ints; things of the same data in a grown heap -/
def rowD (r : Int × Int) : PyData := .tuple [.int r.1, .int r.2]
def rowsD (rs : List (Int × Int)) : PyData := .list (rs.map rowD)
theorem dp_rows {K : PySem.W.Frag} {H : Hp} : ∀ (ts : List Addr) (rs : List (Int × Int)), ts.length = rs.length → (∀ (i : Nat) (t : Addr) (r : Int × Int), ts[i]? = some t → rs[i]? = some r → H t = some (.tup [.int r.1, .int r.2])) → DpAll K H (ts.map V.ref) (rs.map rowD)
  | [], [], _, _ => .nil
  | t :: ts, r :: rs, hl, h => .cons (.tup (SqT.of (h 0 t r rfl rfl)) (.cons (.int _) (.cons (.int _) .nil))) (dp_rows ts rs (by simpa using hl) fun i t' r' h1 h2 => h (i + 1) t' r' (by simpa using h1) (by simpa using h2))
  | [], _ :: _, hl, _ => by simp at hl
  | _ :: _, [], hl, _ => by simp at hl
theorem rows_sh (rs : List (Int × Int)) : SeqAt.shaped (rowsD rs) = true := flat_sh (n := 2) (flat_list (n := 1) fun d hd => by
  obtain ⟨r, _, rfl⟩ := List.mem_map.mp hd
  exact flat_tup (n := 0) fun d hd => by
    simp at hd
    rcases hd with rfl | rfl <;> exact flat_int 0 _)
theorem sqt_same {K : PySem.W.Frag} {H H' : Hp} {a : Addr} {xs : List V} (s : Same H H') (h : SqT K H a xs) : SqT K H' a xs := h.elim (fun r => r.elim (fun e => .inl (.inl (s _ _ e))) (fun ⟨o, e⟩ => .inl (.inr ⟨o, s _ _ e⟩))) .inr
mutual
theorem dp_same {K : PySem.W.Frag} {H H' : Hp} (s : Same H H') : ∀ (d : PyData) (v : V), Dp K H v d → Dp K H' v d
  | .none, _, h => by cases h; exact .non
  | .bool b, _, h => by cases h; exact .bl b
  | .int i, _, h => by cases h; exact .int i
  | .str x, _, h => by cases h; exact .str x
  | .list ds, _, h => by cases h with | lst h1 h2 => exact .lst (L2.Same.seq s h1) (dpA_same s ds _ h2)
  | .tuple ds, _, h => by cases h with | tup h1 h2 => exact .tup (sqt_same s h1) (dpA_same s ds _ h2)
  | .dict _, _, h => by cases h
theorem dpA_same {K : PySem.W.Frag} {H H' : Hp} (s : Same H H') : ∀ (ds : List PyData) (vs : List V), DpAll K H vs ds → DpAll K H' vs ds
  | [], _, h => by cases h; exact .nil
  | d :: ds, _, h => by cases h with | cons h1 h2 => exact .cons (dp_same s d _ h1) (dpA_same s ds _ h2)
end
end Hx

set_option Elab.async false
set_option linter.all false
set_option maxRecDepth 100000
set_option maxHeartbeats 4000000
namespace Hx
open PySem PySem.Spec PyProof.Rows L2
/-! ### keywords in any sequence: n values by place, then those of the permutation -/
def kwP {α : Type} (n : Nat) (perm : List Nat) (us ws : List α) : List α := if us.length = n ∧ ws.length = perm.length then us ++ perm.filterMap (fun i => ws[i]?) else []
theorem vals_append {a b : List V} {x y : List Value} (h : Vals a x) (k : Vals b y) : Vals (a ++ b) (x ++ y) := by
  induction h with
  | nil => exact k
  | cons r t ih => exact .cons r ih
theorem vals_get {a : List V} {x : List Value} (h : Vals a x) : ∀ i : Nat, (∃ v u, a[i]? = some v ∧ x[i]? = some u ∧ RelV v u) ∨ (a[i]? = none ∧ x[i]? = none) := by
  induction h with
  | nil => exact fun i => .inr ⟨by simp, by simp⟩
  | cons r t ih =>
    intro i
    cases i with
    | zero => exact .inl ⟨_, _, rfl, rfl, r⟩
    | succ j => simpa using ih j
theorem vals_perm {a : List V} {x : List Value} (h : Vals a x) : ∀ perm : List Nat, Vals (perm.filterMap (fun i => a[i]?)) (perm.filterMap (fun i => x[i]?))
  | [] => .nil
  | i :: r => by
    have t := vals_perm h r
    rcases vals_get h i with ⟨v, u, e1, e2, q⟩ | ⟨e1, e2⟩
    · rw [List.filterMap_cons, List.filterMap_cons, e1, e2]; exact .cons q t
    · rw [List.filterMap_cons, List.filterMap_cons, e1, e2]; exact t
theorem vals_kwP {n : Nat} {perm : List Nat} {vs zs : List V} {us ws : List Value} (h : Vals vs us) (k : Vals zs ws) : Vals (kwP n perm vs zs) (kwP n perm us ws) := by
  unfold kwP
  rw [h.length, k.length]
  split
  · exact vals_append h (vals_perm k perm)
  · exact .nil
theorem kw_bindsP {K : PySem.W.Frag} {x qual : Str} {st : Stmt} {f : Addr} {fd : FuncData} {ps ks : List Str} {n : Nat} {perm : List Nat} (F : Fun K x qual st f fd) (h0 : 0 < ps.length)
    (h : ∀ (kV doc pm : Value) (an : Option Addr) (cdv ct : Value) (us ws : List Value), us.length = n → ws.length = perm.length → bindArgs (PySem.W.fnOf x qual (defArgs st) (defBody st) (defScope st) .none kV doc pm an cdv ct) ⟨us, ks.zip ws⟩ = pure (ps.zip (kwP n perm us ws))) : KBinds K fd ps ks (kwP n perm) (kwP n perm) := by
  obtain ⟨oc, od, kV, doc, pm, an, cdv, ct, osl, rfl, lk, hcd⟩ := F.ex
  refine ⟨fun s us ws _ hl => ?_, fun r1 r2 => vals_kwP r1 r2⟩
  by_cases q : us.length = n ∧ ws.length = perm.length
  · exact .of_eq (h kV doc pm an cdv ct us ws q.1 q.2)
  · unfold kwP at hl; rw [if_neg q] at hl; simp at hl; omega
theorem kw_bindsN {K : PySem.W.Frag} {x qual : Str} {st : Stmt} {f : Addr} {fd : FuncData} {ps ks : List Str} {n : Nat} {perm : List Nat} (F : Fun K x qual st f fd) (h0 : ks.length = perm.length)
    (h : ∀ (kV doc pm : Value) (an : Option Addr) (cdv ct : Value) (us ws : List Value), us.length = n → ws.length = perm.length → bindArgs (PySem.W.fnOf x qual (defArgs st) (defBody st) (defScope st) .none kV doc pm an cdv ct) ⟨us, ks.zip ws⟩ = pure (ps.zip (kwP n perm us ws))) : KBn K fd ps n ks (kwP n perm) (kwP n perm) := by
  obtain ⟨oc, od, kV, doc, pm, an, cdv, ct, osl, rfl, lk, hcd⟩ := F.ex
  exact ⟨fun s us ws _ l1 l2 => .of_eq (h kV doc pm an cdv ct us ws l1 (l2.trans h0)), fun r1 r2 => vals_kwP r1 r2⟩
/-! ### an own == beside a list -/
theorem op_eqOwnL {X : Cx} {n : Nat} {C f : Addr} {fd : FuncData} {ps : List Str} {sp : Sp} (F : FnOk X.prog X.w X.K X.mg X.base CX0 n f fd ps sp) (hr : Room n X.A)
    (hs : PySem.W.findIn X.K (.ref C) "__eq__" = some (some (.ref f))) (hf : PySem.W.isFn X.K (.ref f) = true) (hb : Binds X.K fd ps []) (hsl : PySem.W.subIn X.K (.type "list") (.ref C) = some false) :
    OpR X (compareOp .Eq) (fun x y H Q => ∃ a b dx fs xs, x = .ref a ∧ y = .ref b ∧ H a = some (.ins C dx fs) ∧ H b = some (.lst xs) ∧ sp [.ref a, .ref b] H (fun v H' => ∃ c, v = .bl c ∧ Q (.bl c) H') (fun _ _ _ => False)) := by
  intro pins s σ H x y v u Q I rx ry h
  obtain ⟨a, b, dx, fs, xs, rfl, rfl, ha, hb', hsp⟩ := h
  cases rx
  cases ry
  obtain ⟨mA, J, _⟩ := ins_get I.hok ha
  obtain ⟨od, J, _⟩ := J.look
  obtain ⟨_, _, nn, _, h1⟩ := (show ObjOk X.prog X.w H s.heap b (.lst xs) from I.hok b _ hb')
  obtain ⟨m, hF⟩ := I.fr
  have hu := hr.un
  refine PySem.W.cmp_K (op := .Eq) (tb := .type "list") (by omega) hF I.ok.mod.kin J (fun A Q E s k q => wpAny_typeOf_ref (k _ _ h1) q) (by simp [PySem.W.notFirst, hsl]) hs hf ?_
  have hl := F.len _ _ _ _ hsp
  have r2 : Vals [V.ref a, V.ref b] [Value.ref a, Value.ref b] := .cons rfl (.cons rfl .nil)
  have hB : BindsTo s fd ⟨[.ref a, .ref b], []⟩ (ps.zip [.ref a, .ref b]) := by
    have := hb s [.ref a, .ref b] I.kIn (by simpa using hl)
    simpa using this
  refine wpAny_call (codeAny_mono (F.run X.A X.stack s H ⟨[.ref a, .ref b], []⟩ [.ref a, .ref b] [.ref a, .ref b] _ _ hr I.env0 hB r2 hsp) fun r s' hq => ?_)
  match r, hq with
  | .ok (.ret w), hq =>
    obtain ⟨z, H', I', rz, c, rfl, q⟩ := I.after hq
    cases rz
    exact ⟨.bl c, H', I', rfl, q⟩
  | .error e, hq => exact False.elim hq
  | .ok .next, hq => exact False.elim hq
  | .ok .brk, hq => exact False.elim hq
  | .ok .cont, hq => exact False.elim hq
theorem kit_not {K : PySem.W.Frag} {C : Addr} (h1 : PySem.W.isClsIn K C = true) (h2 : PySem.W.typeIn K (.ref C) = some (.type "type")) (h3 : PySem.W.subIn K (.type "list") (.ref C) = some false) : PySem.W.kitOne K (.type "list") (.ref C) = some false := by
  have e : ((PySem.W.clsIn K C).isSome && PySem.W.typeIn K (.ref C) == some (.type "type")) = true := by
    have h1' : (PySem.W.clsIn K C).isSome = true := h1
    rw [h1', h2] <;> rfl
  show (if ((Value.type "list" == .ref C) = true) then some true else (if ((PySem.W.clsIn K C).isSome && PySem.W.typeIn K (.ref C) == some (.type "type")) = true then PySem.W.subIn K (.type "list") (.ref C) else none)) = some false
  rw [if_neg (by intro z; cases z), if_pos e]
  exact h3
/-! ### a comprehension that sifts -/
theorem lc_filt {α : Type} {K : PySem.W.Frag} {a : Addr} {g : TG} {tt : TT} {te : TE} {vs : List Nat} {σ : L2.St} {H1 : Hp} {D : Addr} {Qd : Hp → Prop} (zs : List α) (f : α → V) (t : α → Bool) (ha : SqL K H1 a (zs.map f)) (hD : H1 D = none) (hz : zs.length ≤ 10000)
    (hs : ∀ (i : Nat) (z : α) (H' : Hp) (Qn : Hp → Prop) (Qy : VK), zs[i]? = some z → Same H1 H' → (t z = false → ∀ H'', Same H' H'' → Qn H'') → (t z = true → ∀ H'', Same H' H'' → Qy (f z) H'') → g (f z) (wipe σ vs) H' fun σ2 H2 => wipe σ2 vs = wipe σ vs ∧ tt σ2 H2 fun b H3 => if b = true then te σ2 H3 Qy else Qn H3)
    (hd : ∀ H', Same H1 H' → H' D = some (.lst ((zs.filter t).map f)) → Qd H') :
    ∃ W : Nat → Nat → Hp → Prop, (∃ m, W 0 m (upd H1 D (.lst []))) ∧ ∀ i m H, W i m H →
      ((Itl K a).stop i H ∧ Qd H) ∨ ((Itl K a).go i H ∧ ∃ Nx : Hp → Prop, (∀ H', Nx H' → ∃ m', m' < m ∧ W (i + 1) m' H') ∧ ∀ x H', (Itl K a).yld i H x H' → g x (wipe σ vs) H' fun σ2 H2 => wipe σ2 vs = wipe σ vs ∧ tt σ2 H2 fun b H3 =>
        if b = true then te σ2 H3 fun y H4 => ∃ acc, H4 D = some (.lst acc) ∧ acc.length < sizeLine ∧ Nx (upd H4 D (.lst (acc ++ [y]))) else Nx H3) := by
  refine lc_list (xs := zs.map f) (fun i H => Same H1 H ∧ H D = some (.lst (((zs.take i).filter t).map f))) ⟨same_upd hD, upd_same⟩ (fun i H _ h => L2.Same.seq h.1 ha) (fun i x H hx h => ?_) (fun H h => hd H h.1 (by rw [h.2, List.length_map, List.take_length]))
  rw [List.getElem?_map] at hx
  obtain ⟨z, hz1, rfl⟩ := Option.map_eq_some_iff.mp hx
  have et : zs.take (i + 1) = zs.take i ++ [z] := by rw [List.take_add_one, hz1]; rfl
  refine hs i z H _ _ hz1 h.1 (fun tn H'' s => ?_) (fun ty H'' s => ?_)
  · refine ⟨L2.Same.trans h.1 s, ?_⟩
    rw [s _ _ h.2, et, List.filter_append, List.filter_cons_of_neg (by simp [tn]), List.filter_nil, List.append_nil]
  · refine ⟨((zs.take i).filter t).map f, s _ _ h.2, size_lt ?_, same_set (L2.Same.trans h.1 s) hD, ?_⟩
    · have := List.length_filter_le t (zs.take i)
      simp at this ⊢; omega
    · rw [upd_same, et, List.filter_append, List.filter_cons_of_pos ty, List.filter_nil, List.map_append]; rfl
/-! ### parts of a list -/
theorem cut_from (xs : List V) (k : Nat) : cutV xs (some (k : Int)) none = xs.drop k := by
  unfold cutV
  rw [HT.sIx_nat, HT.sIx_none, List.take_of_length_le (by rw [List.length_drop]; omega)]
  by_cases h : k ≤ xs.length
  · rw [Nat.min_eq_left h]
  · rw [Nat.min_eq_right (by omega), List.drop_length, List.drop_of_length_le (by omega)]
theorem cut_to (xs : List V) (k : Nat) : cutV xs none (some (k : Int)) = xs.take k := by
  unfold cutV
  rw [HT.sIx_nat, HT.sIx_none, List.drop_zero, Nat.sub_zero]
  by_cases h : k ≤ xs.length
  · rw [Nat.min_eq_left h]
  · rw [Nat.min_eq_right (by omega), List.take_length, List.take_of_length_le (by omega)]
/-! ### a list beside the empty one -/
theorem eqv_nilD (ds : List PyData) : PyData.eqv (.list ds) (.list []) = ds.isEmpty := by
  cases ds with
  | nil => rfl
  | cons a r => simp [PyData.eqv, PyData.eqvAll]
end Hx

set_option Elab.async false
set_option linter.all false
set_option maxRecDepth 100000
set_option maxHeartbeats 4000000
namespace Hx
open PySem PySem.Spec PyProof.Rows L2
/-! ### a list or a tuple -/
def Sq (K : PySem.W.Frag) (H : Hp) (a : Addr) (xs : List V) : Prop := H a = some (.lst xs) ∨ H a = some (.tup xs)
theorem Sq.same {K : PySem.W.Frag} {H H' : Hp} {a : Addr} {xs : List V} (s : Same H H') (h : Sq K H a xs) : Sq K H' a xs := h.imp (s _ _) (s _ _)
theorem Sq.or {K : PySem.W.Frag} {H : Hp} {a : Addr} {xs : List V} (h : Sq K H a xs) : SqL K H a xs ∨ SqT K H a xs := h.imp SqL.of SqT.of
def rIxB (K : PySem.W.Frag) : R2 := fun x y H Q => ∃ p xs i v, x = .ref p ∧ y = .int i ∧ Sq K H p xs ∧ atI xs i = some v ∧ Q v H
theorem ix_both {X : Cx} : IxR X (rIxB X.K) := by
  intro value slice pins s σ H x y v u Q I rx ry h hs
  obtain ⟨p, xs, i, z, rfl, rfl, hq, he, q⟩ := h
  rcases hq with hq | hq
  · exact ix_list value slice pins s σ H _ _ v u Q I rx ry ⟨p, xs, i, z, rfl, rfl, SqL.of hq, he, q⟩ hs
  · exact ix_tup value slice pins s σ H _ _ v u Q I rx ry ⟨p, xs, i, z, rfl, rfl, SqT.of hq, he, q⟩ hs
/-! ### texts of a few bools -/
theorem shown_bools (bs : List Bool) (hl : bs.length ≤ 400) : (PyData.list (bs.map PyData.bool)).showable = true ∧ (PyData.list (bs.map PyData.bool)).hasDict = false ∧ (PyData.list (bs.map PyData.bool)).depth ≤ 64 ∧ (PyData.list (bs.map PyData.bool)).shown.length ≤ sizeLine := by
  have h1 : ∀ bs : List Bool, PyData.showableAll (bs.map PyData.bool) = true := fun bs => by
    induction bs with
    | nil => rfl
    | cons b r ih => rw [List.map_cons, PyData.showableAll, PyData.showable, ih] <;> rfl
  have h2 : ∀ bs : List Bool, PyData.hasDictAll (bs.map PyData.bool) = false := fun bs => by
    induction bs with
    | nil => rfl
    | cons b r ih => rw [List.map_cons, PyData.hasDictAll, PyData.hasDict, ih] <;> rfl
  have h3 : ∀ bs : List Bool, PyData.depthAll (bs.map PyData.bool) = 0 := fun bs => by
    induction bs with
    | nil => simp [PyData.depthAll]
    | cons b r ih => simp [PyData.depthAll, PyData.depth, ih]
  have h4 : ∀ bs : List Bool, piled (PyData.shownAll (bs.map PyData.bool)) ≤ 22 * bs.length := fun bs => by
    induction bs with
    | nil => exact Nat.le_refl _
    | cons b r ih =>
      have e : (PyData.shown (.bool b)).length ≤ 5 := by cases b <;> decide
      rw [List.map_cons, PyData.shownAll, piled_cons, List.length_cons]
      omega
  refine ⟨by rw [PyData.showable]; exact h1 bs, by rw [PyData.hasDict]; exact h2 bs, by rw [PyData.depth, h3]; decide, ?_⟩
  rw [PyData.shown]
  have a := text_le (PyData.shownAll (bs.map PyData.bool)) 0 "["
  have b := h4 bs
  show (textFrom 0 "[" _ ++ "]").length ≤ _
  rw [strLen_append, sizeLine_eq]
  have e : (("[" : String) : Str).length = 1 := rfl
  have e2 : (("]" : String) : Str).length = 1 := rfl
  rw [e] at a
  rw [e2]
  omega
theorem dp_bools {K : PySem.W.Frag} {H : Hp} : ∀ bs : List Bool, DpAll K H (bs.map V.bl) (bs.map PyData.bool)
  | [] => .nil
  | b :: r => .cons (.bl b) (dp_bools r)
end Hx

set_option Elab.async false
set_option linter.all false
set_option maxRecDepth 100000
set_option maxHeartbeats 4000000
/-! HsSep: what is owned of a heap, as a list; a part of the heap that never changes; frames. -/
namespace L2
open PySem PySem.Spec PyProof.Rows
variable {K : PySem.W.Frag}
theorem DpAll.app' {M : Hp} : ∀ {vs us : List V} {ds es : List PyData}, DpAll K M vs ds → DpAll K M us es → DpAll K M (vs ++ us) (ds ++ es)
  | _, _, _, _, .nil, y => y
  | _, _, _, _, .cons x z, y => .cons x (DpAll.app' z y)
theorem DpAll.get {M : Hp} : ∀ {vs : List V} {ds : List PyData} {i : Nat} {v : V}, DpAll K M vs ds → vs[i]? = some v → ∃ d, ds[i]? = some d ∧ Dp K M v d
  | _, _, _, _, .nil, e => by simp at e
  | _, _, 0, _, .cons x _, e => by simp at e; subst e; exact ⟨_, rfl, x⟩
  | _, _, i + 1, v, .cons _ y, e => by
    obtain ⟨d, h1, h2⟩ := DpAll.get (i := i) (v := v) y (by simpa using e)
    exact ⟨d, by simpa using h1, h2⟩
theorem DpAll.get' {M : Hp} : ∀ {vs : List V} {ds : List PyData} {i : Nat} {v : V} {d : PyData}, DpAll K M vs ds → vs[i]? = some v → ds[i]? = some d → Dp K M v d := fun h e1 e2 => by
  obtain ⟨d', h1, h2⟩ := h.get e1
  rw [e2] at h1; cases h1; exact h2
theorem DpAll.len {M : Hp} : ∀ {vs : List V} {ds : List PyData}, DpAll K M vs ds → vs.length = ds.length
  | _, _, .nil => rfl
  | _, _, .cons _ y => by simp [DpAll.len y]
theorem DpAll.take {M : Hp} : ∀ {vs : List V} {ds : List PyData} (n : Nat), DpAll K M vs ds → DpAll K M (vs.take n) (ds.take n)
  | _, _, 0, _ => by simpa using DpAll.nil
  | _, _, _ + 1, .nil => by simpa using DpAll.nil
  | _, _, n + 1, .cons x y => by simpa using DpAll.cons x (DpAll.take n y)
theorem DpAll.drop {M : Hp} : ∀ {vs : List V} {ds : List PyData} (n : Nat), DpAll K M vs ds → DpAll K M (vs.drop n) (ds.drop n)
  | _, _, 0, h => by simpa using h
  | _, _, _ + 1, .nil => by simpa using DpAll.nil
  | _, _, n + 1, .cons _ y => by simpa using DpAll.drop n y
theorem DpAll.set {M : Hp} {v : V} {d : PyData} (x : Dp K M v d) : ∀ {vs : List V} {ds : List PyData} (n : Nat), DpAll K M vs ds → DpAll K M (vs.set n v) (ds.set n d)
  | _, _, _, .nil => by simpa using DpAll.nil
  | _, _, 0, .cons _ y => by simpa using DpAll.cons x y
  | _, _, n + 1, .cons z y => by simpa using DpAll.cons z (DpAll.set x n y)
theorem DpAll.erase {M : Hp} : ∀ {vs : List V} {ds : List PyData} (n : Nat), DpAll K M vs ds → DpAll K M (vs.eraseIdx n) (ds.eraseIdx n)
  | _, _, _, .nil => by simpa using DpAll.nil
  | _, _, 0, .cons _ y => by simpa using y
  | _, _, n + 1, .cons x y => by simpa using DpAll.cons x (DpAll.erase n y)
theorem DpAll.dropLast {M : Hp} {vs : List V} {ds : List PyData} (h : DpAll K M vs ds) : DpAll K M vs.dropLast ds.dropLast := by
  rw [List.dropLast_eq_take, List.dropLast_eq_take, h.len]; exact h.take _
theorem DpAll.rev {M : Hp} : ∀ {vs : List V} {ds : List PyData}, DpAll K M vs ds → DpAll K M vs.reverse ds.reverse
  | _, _, .nil => .nil
  | _, _, .cons x y => by rw [List.reverse_cons, List.reverse_cons]; exact DpAll.app' (DpAll.rev y) (.cons x .nil)
end L2
namespace Hx
open PySem PySem.Spec PyProof.Rows L2
/-- what stands at an owned address -/
inductive Ob where
  | raw (o : HO)
  | such (φ : HO → Prop)
  | L (ds : List PyData)
  | D (kds : List (Key × PyData))
/-- M: the part that never changes -/
def Hd (K : PySem.W.Frag) (M H : Hp) (a : Addr) : Ob → Prop
  | .raw o => H a = some o
  | .such φ => ∃ o, H a = some o ∧ φ o
  | .L ds => ∃ vs, H a = some (.lst vs) ∧ DpAll K M vs ds
  | .D kds => ∃ kvs : List (Key × V), H a = some (.dK kvs) ∧ kvs.map Prod.fst = kds.map Prod.fst ∧ DpAll K M (kvs.map Prod.snd) (kds.map Prod.snd)
/-- what is known of the part that never changes -/
inductive Pf where
  | tup (t : Addr) (vs : List V)
  | lst (t : Addr) (vs : List V)
  | dp (vs : List V) (ds : List PyData)
  | sq (t : Addr) (vs : List V)
def Pf.ok (K : PySem.W.Frag) (M : Hp) : Pf → Prop
  | .tup t vs => M t = some (.tup vs)
  | .lst t vs => M t = some (.lst vs)
  | .dp vs ds => DpAll K M vs ds
  | .sq t vs => SqT K M t vs
structure Own (K : PySem.W.Frag) (H : Hp) (L : List (Addr × Ob)) (P : List Pf) : Prop where
  ex : ∃ M : Hp, (L.map Prod.fst).Nodup ∧ (∀ p ∈ L, Hd K M H p.1 p.2 ∧ M p.1 = none) ∧ (∀ b u, M b = some u → H b = some u) ∧ ∀ q ∈ P, q.ok K M
theorem Pf.same {K : PySem.W.Frag} {M M' : Hp} (s : Same M M') : ∀ q : Pf, q.ok K M → q.ok K M'
  | .tup t vs, h => s _ _ h
  | .lst t vs, h => s _ _ h
  | .dp vs ds, h => dpA_same s _ _ h
  | .sq t vs, h => sqt_same s h
theorem Hd.some {K : PySem.W.Frag} {M H : Hp} {a : Addr} : ∀ {o : Ob}, Hd K M H a o → ∃ u, H a = Option.some u
  | .raw _, h => ⟨_, h⟩
  | .such _, ⟨_, h, _⟩ => ⟨_, h⟩
  | .L _, ⟨_, h, _⟩ => ⟨_, h⟩
  | .D _, ⟨_, h, _⟩ => ⟨_, h⟩
theorem Hd.same {K : PySem.W.Frag} {M M' H H' : Hp} {a : Addr} (s : Same M M') (e : H' a = H a) : ∀ {o : Ob}, Hd K M H a o → Hd K M' H' a o
  | .raw _, h => e.trans h
  | .such _, ⟨_, h, q⟩ => ⟨_, e.trans h, q⟩
  | .L _, ⟨_, h, q⟩ => ⟨_, e.trans h, dpA_same s _ _ q⟩
  | .D _, ⟨_, h, k, q⟩ => ⟨_, e.trans h, k, dpA_same s _ _ q⟩
variable {K : PySem.W.Frag} {H H1 M : Hp} {L L' R B : List (Addr × Ob)} {P P' : List Pf} {p a t : Addr} {o : HO} {ob : Ob} {vs us : List V} {ds es : List PyData}
theorem Own.new (h : Own K H L P) (f : H p = none) (e : upd H p o = H1) : Own K H1 ((p, .raw o) :: L) P := by
  subst e
  obtain ⟨M, nd, hl, hs, hp⟩ := h.ex
  have np : ∀ q ∈ L, q.1 ≠ p := fun q hq z => by obtain ⟨u, hu⟩ := (hl q hq).1.some; rw [z, f] at hu; cases hu
  have mp : M p = none := by
    cases e : M p with
    | none => rfl
    | some u => rw [hs _ _ e] at f; cases f
  refine ⟨M, ?_, fun q hq => ?_, fun b u hb => ?_, hp⟩
  · rw [List.map_cons, List.nodup_cons]
    exact ⟨fun z => by obtain ⟨q, hq, e⟩ := List.mem_map.mp z; exact np q hq e, nd⟩
  · rcases List.mem_cons.mp hq with rfl | hq
    · exact ⟨upd_same, mp⟩
    · exact ⟨(hl q hq).1.same (L2.Same.refl _) (upd_ne (np q hq)), (hl q hq).2⟩
  · rw [upd_ne (fun z => by rw [z, mp] at hb; cases hb)]; exact hs _ _ hb
/-- a new thing that never changes -/
theorem Own.newM (h : Own K H L P) (f : H p = none) (e : upd H p o = H1) {q : Pf} (hq : ∀ M : Hp, M p = some o → q.ok K M) : Own K H1 L (q :: P) := by
  subst e
  obtain ⟨M, nd, hl, hs, hp⟩ := h.ex
  have np : ∀ q ∈ L, q.1 ≠ p := fun q hq z => by obtain ⟨u, hu⟩ := (hl q hq).1.some; rw [z, f] at hu; cases hu
  have mp : M p = none := by
    cases e : M p with
    | none => rfl
    | some u => rw [hs _ _ e] at f; cases f
  have sm : Same M (upd M p o) := same_upd mp
  refine ⟨upd M p o, nd, fun q hq => ⟨(hl q hq).1.same sm (upd_ne (np q hq)), by rw [upd_ne (np q hq)]; exact (hl q hq).2⟩, fun b u hb => ?_, fun r hr => ?_⟩
  · by_cases z : b = p
    · subst z; rw [upd_same] at hb ⊢; exact hb
    · rw [upd_ne z] at hb ⊢; exact hs _ _ hb
  · rcases List.mem_cons.mp hr with rfl | hr
    · exact hq _ upd_same
    · exact r.same sm (hp r hr)
theorem Own.newT (h : Own K H L P) (f : H p = none) (e : upd H p (.tup vs) = H1) : Own K H1 L (.tup p vs :: P) := h.newM f e fun _ z => z
theorem Own.newP (h : Own K H L P) (f : H p = none) (e : upd H p (.lst vs) = H1) : Own K H1 L (.lst p vs :: P) := h.newM f e fun _ z => z
inductive At : List (Addr × Ob) → Addr → Ob → List (Addr × Ob) → Prop
  | head {a : Addr} {o o' : Ob} {t : List (Addr × Ob)} : At ((a, o) :: t) a o' ((a, o') :: t)
  | tail {a : Addr} {o' : Ob} {p : Addr × Ob} {t t' : List (Addr × Ob)} : At t a o' t' → At (p :: t) a o' (p :: t')
  | app {a : Addr} {o' : Ob} {A t t' : List (Addr × Ob)} : At t a o' t' → At (A ++ t) a o' (A ++ t')
theorem At.parts {L L' : List (Addr × Ob)} {a : Addr} {o' : Ob} (h : At L a o' L') : ∃ x o y, L = x ++ (a, o) :: y ∧ L' = x ++ (a, o') :: y := by
  induction h with
  | head => exact ⟨[], _, _, rfl, rfl⟩
  | tail _ ih => obtain ⟨x, o, y, e1, e2⟩ := ih; exact ⟨_ :: x, o, y, by rw [e1]; rfl, by rw [e2]; rfl⟩
  | @app _ _ A _ _ _ ih => obtain ⟨x, o, y, e1, e2⟩ := ih; exact ⟨A ++ x, o, y, by rw [e1, List.append_assoc], by rw [e2, List.append_assoc]⟩
theorem Own.setU (h : Own K H L P) (m : At L a ob L') (e : upd H a o = H1) (hd : ∀ M : Hp, (∀ q ∈ P, q.ok K M) → (∀ o0, (a, o0) ∈ L → Hd K M H a o0) → Hd K M (upd H a o) a ob) : Own K H1 L' P := by
  subst e
  obtain ⟨M, nd, hl, hs, hp⟩ := h.ex
  obtain ⟨x, o0, y, rfl, rfl⟩ := m.parts
  have ma : M a = none := (hl (a, o0) (by simp)).2
  have nd' := nd
  rw [List.map_append, List.map_cons, List.nodup_append, List.nodup_cons] at nd'
  have na : ∀ q, (q ∈ x ∨ q ∈ y) → q.1 ≠ a := fun q hq z => by
    rcases hq with hq | hq
    · exact nd'.2.2 q.1 (List.mem_map_of_mem hq) a List.mem_cons_self z
    · exact nd'.2.1.1 (List.mem_map.mpr ⟨q, hq, z⟩)
  refine ⟨M, by rw [List.map_append, List.map_cons] at nd ⊢; exact nd, fun q hq => ?_, fun b u hb => ?_, hp⟩
  · have old : (q ∈ x ∨ q ∈ y) → Hd K M (upd H a o) q.1 q.2 ∧ M q.1 = none := fun z => by
      have := hl q (by rcases z with z | z <;> simp [z])
      exact ⟨this.1.same (L2.Same.refl _) (upd_ne (na q z)), this.2⟩
    rcases List.mem_append.mp hq with hq | hq
    · exact old (.inl hq)
    · rcases List.mem_cons.mp hq with rfl | hq
      · exact ⟨hd M hp fun o1 m1 => (hl _ m1).1, ma⟩
      · exact old (.inr hq)
  · rw [upd_ne (fun z => by rw [z, ma] at hb; cases hb)]; exact hs _ _ hb
theorem Own.setO (h : Own K H L P) (m : At L a ob L') (e : upd H a o = H1) (hd : ∀ M : Hp, (∀ q ∈ P, q.ok K M) → Hd K M (upd H a o) a ob) : Own K H1 L' P := h.setU m e fun M q _ => hd M q
theorem Own.set (h : Own K H L P) (m : At L a (.raw o) L') (e : upd H a o = H1) : Own K H1 L' P := h.setO m e fun _ _ => upd_same
/-- the same, by a name that a walker sees -/
def updX (H : Hp) (a : Addr) (o : HO) : Hp := upd H a o
theorem upd_mk (H : Hp) (a : Addr) (o : HO) : upd H a o = updX H a o := rfl
theorem upd_mkO (h : Own K H L P) (a : Addr) (o : HO) : upd H a o = updX H a o := rfl
theorem Own.cset {G : Prop} (h : Own K H L P) (e : updX H a o = H1) (m : At L a (.raw o) L') (k : Own K H1 L' P → G) : G := k (h.set m e)
theorem Own.cnewT {G : Prop} (h : Own K H L P) (e : updX H p (.tup vs) = H1) (f : H p = none) (k : Own K H1 L (.tup p vs :: P) → G) : G := k (h.newT f e)
theorem Own.cnew {G : Prop} (h : Own K H L P) (e : updX H p o = H1) (f : H p = none) (k : Own K H1 ((p, .raw o) :: L) P → G) : G := k (h.new f e)
theorem Own.make {C dx x : Addr} (h : Own K H L P) (f1 : H x = none) (f2 : H dx = none) (f3 : dx ≠ x) (e : upd (updX H dx (.own x)) x (.ins C dx []) = H1) : Own K H1 ((x, .raw (.ins C dx [])) :: L) P := by
  have h1 := h.new f2 (o := .own x) rfl
  have h2 := h1.new (p := x) (o := .ins C dx []) (by rw [upd_ne (Ne.symm f3)]; exact f1) e
  obtain ⟨M, nd, hl, hs, hp⟩ := h2.ex
  refine ⟨M, ?_, fun p hp' => hl p ?_, hs, hp⟩
  · simp only [List.map_cons, List.nodup_cons, List.mem_cons, not_or] at nd ⊢
    exact ⟨nd.1.2, nd.2.2⟩
  · rcases List.mem_cons.mp hp' with rfl | z
    · exact List.mem_cons_self
    · exact List.mem_cons_of_mem _ (List.mem_cons_of_mem _ z)
theorem Own.cmake {G : Prop} {C dx x : Addr} (h : Own K H L P) (f1 : H x = none) (f2 : H dx = none) (f3 : dx ≠ x) (e : upd (updX H dx (.own x)) x (.ins C dx []) = H1) (k : Own K H1 ((x, .raw (.ins C dx [])) :: L) P → G) : G := k (h.make f1 f2 f3 e)
theorem Own.raw (h : Own K H L P) (m : (a, Ob.raw o) ∈ L) : H a = some o := by
  obtain ⟨M, nd, hl, hs, hp⟩ := h.ex
  exact (hl _ m).1
theorem Own.ptup (h : Own K H L P) (m : Pf.tup t vs ∈ P) : H t = some (.tup vs) := by
  obtain ⟨M, nd, hl, hs, hp⟩ := h.ex
  exact hs _ _ (hp _ m)
theorem Own.plst (h : Own K H L P) (m : Pf.lst t vs ∈ P) : H t = some (.lst vs) := by
  obtain ⟨M, nd, hl, hs, hp⟩ := h.ex
  exact hs _ _ (hp _ m)
theorem Own.pdp (h : Own K H L P) (m : Pf.dp vs ds ∈ P) : DpAll K H vs ds := by
  obtain ⟨M, nd, hl, hs, hp⟩ := h.ex
  exact dpA_same hs _ _ (hp _ m)
theorem Own.psq (h : Own K H L P) (m : Pf.sq t vs ∈ P) : SqT K H t vs := by
  obtain ⟨M, nd, hl, hs, hp⟩ := h.ex
  exact sqt_same hs (hp _ m)
theorem Own.lst (h : Own K H L P) (m : (a, Ob.L ds) ∈ L) : ∃ vs, H a = some (.lst vs) ∧ DpAll K H vs ds := by
  obtain ⟨M, nd, hl, hs, hp⟩ := h.ex
  obtain ⟨vs, e, q⟩ := (hl _ m).1
  exact ⟨vs, e, dpA_same hs _ _ q⟩
/-- entries by other words of the same heap -/
theorem Own.re (h : Own K H L P) (m : At L a ob L') {P' : List Pf} (f : ∀ M : Hp, (∀ q ∈ P, q.ok K M) → (∀ b u, M b = some u → H b = some u) → (∀ o0, (a, o0) ∈ L → Hd K M H a o0) → Hd K M H a ob ∧ ∀ q ∈ P', q.ok K M) : Own K H L' P' := by
  obtain ⟨M, nd, hl, hs, hp⟩ := h.ex
  obtain ⟨x, o0, y, rfl, rfl⟩ := m.parts
  obtain ⟨g1, g2⟩ := f M hp hs fun o0 m => (hl _ m).1
  refine ⟨M, by rw [List.map_append, List.map_cons] at nd ⊢; exact nd, fun q hq => ?_, hs, g2⟩
  rcases List.mem_append.mp hq with z | z
  · exact hl q (List.mem_append.mpr (.inl z))
  · rcases List.mem_cons.mp z with rfl | z
    · exact ⟨g1, (hl (a, o0) (by simp)).2⟩
    · exact hl q (List.mem_append.mpr (.inr (List.mem_cons_of_mem _ z)))
theorem Own.openL (h : Own K H L P) (m : (a, Ob.L ds) ∈ L) : ∃ vs, ∀ L', At L a (.raw (.lst vs)) L' → Own K H L' (.dp vs ds :: P) := by
  obtain ⟨M, nd, hl, hs, hp⟩ := h.ex
  obtain ⟨vs, e, q⟩ := (hl _ m).1
  refine ⟨vs, fun L' m' => ?_⟩
  obtain ⟨x, o0, y, rfl, rfl⟩ := m'.parts
  refine ⟨M, by rw [List.map_append, List.map_cons] at nd ⊢; exact nd, fun z hz => ?_, hs, fun z hz => ?_⟩
  · rcases List.mem_append.mp hz with w | w
    · exact hl z (List.mem_append.mpr (.inl w))
    · rcases List.mem_cons.mp w with rfl | w
      · exact ⟨e, (hl (a, o0) (by simp)).2⟩
      · exact hl z (List.mem_append.mpr (.inr (List.mem_cons_of_mem _ w)))
  · rcases List.mem_cons.mp hz with rfl | hz
    · exact q
    · exact hp z hz
theorem Own.openD {kds : List (Key × PyData)} (h : Own K H L P) (m : (a, Ob.D kds) ∈ L) : ∃ kvs : List (Key × V), kvs.map Prod.fst = kds.map Prod.fst ∧ ∀ L', At L a (.raw (.dK kvs)) L' → Own K H L' (.dp (kvs.map Prod.snd) (kds.map Prod.snd) :: P) := by
  obtain ⟨M, nd, hl, hs, hp⟩ := h.ex
  obtain ⟨vs, e, k, q⟩ := (hl _ m).1
  refine ⟨vs, k, fun L' m' => ?_⟩
  obtain ⟨x, o0, y, rfl, rfl⟩ := m'.parts
  refine ⟨M, by rw [List.map_append, List.map_cons] at nd ⊢; exact nd, fun z hz => ?_, hs, fun z hz => ?_⟩
  · rcases List.mem_append.mp hz with w | w
    · exact hl z (List.mem_append.mpr (.inl w))
    · rcases List.mem_cons.mp w with rfl | w
      · exact ⟨e, (hl (a, o0) (by simp)).2⟩
      · exact hl z (List.mem_append.mpr (.inr (List.mem_cons_of_mem _ w)))
  · rcases List.mem_cons.mp hz with rfl | hz
    · exact q
    · exact hp z hz
theorem Own.openS {φ : HO → Prop} (h : Own K H L P) (m : (a, Ob.such φ) ∈ L) : ∃ o, φ o ∧ ∀ L', At L a (.raw o) L' → Own K H L' P := by
  obtain ⟨M, nd, hl, hs, hp⟩ := h.ex
  obtain ⟨o, e, q⟩ := (hl _ m).1
  refine ⟨o, q, fun L' m' => ?_⟩
  obtain ⟨x, o0, y, rfl, rfl⟩ := m'.parts
  refine ⟨M, by rw [List.map_append, List.map_cons] at nd ⊢; exact nd, fun z hz => ?_, hs, hp⟩
  rcases List.mem_append.mp hz with w | w
  · exact hl z (List.mem_append.mpr (.inl w))
  · rcases List.mem_cons.mp w with rfl | w
    · exact ⟨e, (hl (a, o0) (by simp)).2⟩
    · exact hl z (List.mem_append.mpr (.inr (List.mem_cons_of_mem _ w)))
theorem Own.derive (h : Own K H L P) {q : Pf} (f : ∀ M : Hp, (∀ q ∈ P, q.ok K M) → q.ok K M) : Own K H L (q :: P) := by
  obtain ⟨M, nd, hl, hs, hp⟩ := h.ex
  exact ⟨M, nd, hl, hs, fun r hr => (List.mem_cons.mp hr).elim (fun e => e ▸ f M hp) (hp r)⟩
/-! ### what follows of what is known -/
def Dv (K : PySem.W.Frag) (P : List Pf) (vs : List V) (ds : List PyData) : Prop := ∀ M : Hp, (∀ q ∈ P, q.ok K M) → DpAll K M vs ds
def Dv1 (K : PySem.W.Frag) (P : List Pf) (v : V) (d : PyData) : Prop := ∀ M : Hp, (∀ q ∈ P, q.ok K M) → Dp K M v d
theorem Dv.nil : Dv K P [] [] := fun _ _ => .nil
theorem Dv.cons {v : V} {d : PyData} (x : Dv1 K P v d) (y : Dv K P vs ds) : Dv K P (v :: vs) (d :: ds) := fun M h => .cons (x M h) (y M h)
theorem Dv.of (m : Pf.dp vs ds ∈ P) : Dv K P vs ds := fun M h => h _ m
theorem Dv.app (x : Dv K P vs ds) (y : Dv K P us es) : Dv K P (vs ++ us) (ds ++ es) := fun M h => L2.DpAll.app' (x M h) (y M h)
theorem Dv1.non : Dv1 K P .non .none := fun _ _ => .non
theorem Dv1.bl (b : Bool) : Dv1 K P (.bl b) (.bool b) := fun _ _ => .bl b
theorem Dv1.int (i : Int) : Dv1 K P (.int i) (.int i) := fun _ _ => .int i
theorem Dv1.str (x : Str) : Dv1 K P (.str x) (.str x) := fun _ _ => .str x
theorem Dv1.tup (m : Pf.tup t vs ∈ P) (x : Dv K P vs ds) : Dv1 K P (.ref t) (.tuple ds) := fun M h => .tup (SqT.of (h _ m)) (x M h)
theorem Dv1.lst (m : Pf.lst t vs ∈ P) (x : Dv K P vs ds) : Dv1 K P (.ref t) (.list ds) := fun M h => .lst (SqL.of (h _ m)) (x M h)
theorem Dv1.of {v : V} {d : PyData} (m : Pf.dp [v] [d] ∈ P) : Dv1 K P v d := fun M h => by cases h _ m with | cons x _ => exact x
theorem DpAll_split {M : Hp} : ∀ {a b : List V} {d e : List PyData}, L2.DpAll K M (a ++ b) (d ++ e) → a.length = d.length → L2.DpAll K M a d ∧ L2.DpAll K M b e
  | [], _, [], _, h, _ => ⟨.nil, h⟩
  | [], _, _ :: _, _, _, l => by simp at l
  | _ :: _, _, [], _, _, l => by simp at l
  | x :: a, b, y :: d, e, h, l => by
    cases h with
    | cons p q =>
      obtain ⟨r1, r2⟩ := DpAll_split (a := a) (b := b) (d := d) (e := e) q (by simpa using l)
      exact ⟨.cons p r1, r2⟩
theorem Dv.fst {us : List V} (x : Dv K P (vs ++ us) (ds ++ es)) (l : vs.length = ds.length) : Dv K P vs ds := fun M h => (DpAll_split (x M h) l).1
theorem Dv.snd {us : List V} (x : Dv K P (vs ++ us) (ds ++ es)) (l : vs.length = ds.length) : Dv K P us es := fun M h => (DpAll_split (x M h) l).2
theorem Dv.hd {v : V} {d : PyData} (x : Dv K P (v :: vs) (d :: ds)) : Dv1 K P v d := fun M h => by cases x M h with | cons y _ => exact y
theorem Dv.tl {v : V} {d : PyData} (x : Dv K P (v :: vs) (d :: ds)) : Dv K P vs ds := fun M h => by cases x M h with | cons _ y => exact y
theorem Own.pd1 {v : V} {d : PyData} (h : Own K H L P) (m : Pf.dp [v] [d] ∈ P) : Dp K H v d := by
  cases h.pdp m with
  | cons y _ => exact y
theorem Own.dpL (h : Own K H L P) (m : (a, Ob.L ds) ∈ L) : Dp K H (.ref a) (.list ds) := by
  obtain ⟨vs, e, q⟩ := h.lst m
  exact .lst (SqL.of e) q
theorem Dv.take (n : Nat) (x : Dv K P vs ds) : Dv K P (vs.take n) (ds.take n) := fun M h => (x M h).take n
theorem Dv.drop (n : Nat) (x : Dv K P vs ds) : Dv K P (vs.drop n) (ds.drop n) := fun M h => (x M h).drop n
theorem Dv.set {v : V} {d : PyData} (n : Nat) (y : Dv1 K P v d) (x : Dv K P vs ds) : Dv K P (vs.set n v) (ds.set n d) := fun M h => (x M h).set (y M h) n
theorem Dv.erase (n : Nat) (x : Dv K P vs ds) : Dv K P (vs.eraseIdx n) (ds.eraseIdx n) := fun M h => (x M h).erase n
theorem Dv.dropLast (x : Dv K P vs ds) : Dv K P vs.dropLast ds.dropLast := fun M h => (x M h).dropLast
theorem Dv.rev (x : Dv K P vs ds) : Dv K P vs.reverse ds.reverse := fun M h => (x M h).rev
theorem Dv.get {i : Nat} {v : V} {d : PyData} (x : Dv K P vs ds) (e1 : vs[i]? = some v) (e2 : ds[i]? = some d) : Dv1 K P v d := fun M h => (x M h).get' e1 e2
theorem Dv.ints (ns : List Int) : Dv K P (ns.map V.int) (ns.map PyData.int) := fun _ _ => dp_ints ns
theorem Own.dv (h : Own K H L P) (x : Dv K P vs ds) : Own K H L (.dp vs ds :: P) := h.derive x
theorem Own.dv1 {v : V} {d : PyData} (h : Own K H L P) (x : Dv1 K P v d) : Own K H L (.dp [v] [d] :: P) := h.derive fun M z => .cons (x M z) .nil
theorem Own.all (h : Own K H L P) (x : Dv K P vs ds) : DpAll K H vs ds := (h.dv x).pdp List.mem_cons_self
theorem Own.one {v : V} {d : PyData} (h : Own K H L P) (x : Dv1 K P v d) : Dp K H v d := by
  cases (h.dv1 x).pdp List.mem_cons_self with
  | cons y _ => exact y
theorem Own.setL (h : Own K H L P) (m : At L a (.L ds) L') (e : upd H a (.lst vs) = H1) (x : Dv K P vs ds) : Own K H1 L' P := h.setO m e fun M q => ⟨vs, upd_same, x M q⟩
theorem Own.setS {φ : HO → Prop} (h : Own K H L P) (m : At L a (.such φ) L') (e : upd H a o = H1) (x : φ o) : Own K H1 L' P := h.setO m e fun _ _ => ⟨o, upd_same, x⟩
theorem Own.setD {kvs : List (Key × V)} {kds : List (Key × PyData)} (h : Own K H L P) (m : At L a (.D kds) L') (e : upd H a (.dK kvs) = H1) (k : kvs.map Prod.fst = kds.map Prod.fst) (x : Dv K P (kvs.map Prod.snd) (kds.map Prod.snd)) : Own K H1 L' P := h.setO m e fun M q => ⟨kvs, upd_same, k, x M q⟩
theorem Own.closeL (h : Own K H L P) (m : (a, Ob.raw (.lst vs)) ∈ L) (x : Dv K P vs ds) (m' : At L a (.L ds) L') : Own K H L' P := h.re m' fun M q hs hd => ⟨⟨vs, hd _ m, x M q⟩, q⟩
theorem Own.closeS {φ : HO → Prop} (h : Own K H L P) (m : (a, Ob.raw o) ∈ L) (x : φ o) (m' : At L a (.such φ) L') : Own K H L' P := h.re m' fun M q hs hd => ⟨⟨o, hd _ m, x⟩, q⟩
theorem Own.closeD {kvs : List (Key × V)} {kds : List (Key × PyData)} (h : Own K H L P) (m : (a, Ob.raw (.dK kvs)) ∈ L) (k : kvs.map Prod.fst = kds.map Prod.fst) (x : Dv K P (kvs.map Prod.snd) (kds.map Prod.snd)) (m' : At L a (.D kds) L') : Own K H L' P := h.re m' fun M q hs hd => ⟨⟨kvs, hd _ m, k, x M q⟩, q⟩
/-! ### blocks out of a list, and less -/
def Pk (L B R : List (Addr × Ob)) : Prop := L.Perm (B ++ R)
theorem Pk.one {p : Addr × Ob} : Pk (p :: R) [p] R := List.Perm.refl _
theorem Pk.here : Pk (B ++ R) B R := List.Perm.refl _
theorem Pk.all : Pk B B [] := by unfold Pk; rw [List.append_nil]
theorem Pk.skip1 {p : Addr × Ob} (h : Pk L B R) : Pk (p :: L) B (p :: R) := (h.cons p).trans List.perm_middle.symm
theorem Pk.skipB {A : List (Addr × Ob)} (h : Pk L B R) : Pk (A ++ L) B (A ++ R) := by
  unfold Pk at h ⊢
  refine (List.Perm.append_left A h).trans ?_
  rw [← List.append_assoc, ← List.append_assoc]
  exact List.Perm.append_right R List.perm_append_comm
/-- what stands by one word stands by another -/
def Ft (K : PySem.W.Frag) (P : List Pf) (o' o : Ob) : Prop := ∀ (M H : Hp) (a : Addr), (∀ q ∈ P, q.ok K M) → Hd K M H a o' → Hd K M H a o
theorem Ft.refl {o : Ob} : Ft K P o o := fun _ _ _ _ h => h
theorem Ft.eq {o' o : Ob} (e : o' = o) : Ft K P o' o := e ▸ Ft.refl
theorem Ft.lst {us vs : List V} (e : us = vs) : Ft K P (.raw (.lst us)) (.raw (.lst vs)) := e ▸ Ft.refl
theorem Ft.ins {C dx : Addr} {us vs : List (Str × V)} (e : us = vs) : Ft K P (.raw (.ins C dx us)) (.raw (.ins C dx vs)) := e ▸ Ft.refl
theorem Ft.dK {us vs : List (Key × V)} (e : us = vs) : Ft K P (.raw (.dK us)) (.raw (.dK vs)) := e ▸ Ft.refl
theorem Ft.toL (x : Dv K P vs ds) : Ft K P (.raw (.lst vs)) (.L ds) := fun M _ _ q h => ⟨vs, h, x M q⟩
theorem Ft.toS {φ : HO → Prop} {o : HO} (x : φ o) : Ft K P (.raw o) (.such φ) := fun _ _ _ _ h => ⟨o, h, x⟩
theorem Ft.toD {kvs : List (Key × V)} {kds : List (Key × PyData)} (k : kvs.map Prod.fst = kds.map Prod.fst) (x : Dv K P (kvs.map Prod.snd) (kds.map Prod.snd)) : Ft K P (.raw (.dK kvs)) (.D kds) := fun M _ _ q h => ⟨kvs, h, k, x M q⟩
theorem Ft.Le {ds es : List PyData} (e : ds = es) : Ft K P (.L ds) (.L es) := e ▸ Ft.refl
theorem Ft.De {ds es : List (Key × PyData)} (e : ds = es) : Ft K P (.D ds) (.D es) := e ▸ Ft.refl
theorem Ft.S {φ ψ : HO → Prop} (e : ∀ o, φ o → ψ o) : Ft K P (.such φ) (.such ψ) := fun _ _ _ _ ⟨o, h, x⟩ => ⟨o, h, e o x⟩
inductive Al (K : PySem.W.Frag) (P : List Pf) : List (Addr × Ob) → List (Addr × Ob) → Prop
  | nil : Al K P [] []
  | cons {a : Addr} {o' o : Ob} {L' L : List (Addr × Ob)} : Ft K P o' o → Al K P L' L → Al K P ((a, o') :: L') ((a, o) :: L)
theorem Al.refl : ∀ L : List (Addr × Ob), Al K P L L
  | [] => .nil
  | (_, _) :: t => .cons Ft.refl (Al.refl t)
theorem Al.app {A A' B B' : List (Addr × Ob)} (x : Al K P A A') (y : Al K P B B') : Al K P (A ++ B) (A' ++ B') := by
  induction x with
  | nil => exact y
  | cons f _ ih => exact .cons f ih
theorem Al.fst {A A' : List (Addr × Ob)} (x : Al K P A A') : A.map Prod.fst = A'.map Prod.fst := by
  induction x with
  | nil => rfl
  | cons f _ ih => rw [List.map_cons, List.map_cons, ih]
theorem Al.hd {A A' : List (Addr × Ob)} (x : Al K P A A') {M H : Hp} (q : ∀ q ∈ P, q.ok K M) (h : ∀ p ∈ A, Hd K M H p.1 p.2 ∧ M p.1 = none) : ∀ p ∈ A', Hd K M H p.1 p.2 ∧ M p.1 = none := by
  induction x with
  | nil => exact fun _ z => nomatch z
  | cons f _ ih =>
    intro p hp
    rcases List.mem_cons.mp hp with rfl | hp
    · have := h _ List.mem_cons_self
      exact ⟨f _ _ _ q this.1, this.2⟩
    · exact ih (fun p hp => h p (List.mem_cons_of_mem _ hp)) p hp
/-- L' out of L -/
def Sb (K : PySem.W.Frag) (P : List Pf) (L' L : List (Addr × Ob)) : Prop := ∃ L1 R, L.Perm (L1 ++ R) ∧ Al K P L1 L'
theorem Sb.refl (L : List (Addr × Ob)) : Sb K P L L := ⟨L, [], by rw [List.append_nil], Al.refl L⟩
theorem Sb.nil : Sb K P [] L := ⟨[], L, List.Perm.refl _, .nil⟩
theorem Sb.app (x : Pk L B R) (y : Sb K P L' R) : Sb K P (B ++ L') L := by
  obtain ⟨L1, z, e, al⟩ := y
  exact ⟨B ++ L1, z, x.trans (by rw [List.append_assoc]; exact List.Perm.append_left B e), Al.app (Al.refl B) al⟩
theorem Sb.cons {o' : Ob} (x : Pk L [(a, o')] R) (f : Ft K P o' ob) (y : Sb K P L' R) : Sb K P ((a, ob) :: L') L := by
  obtain ⟨L1, z, e, al⟩ := y
  exact ⟨(a, o') :: L1, z, x.trans (List.Perm.append_left [(a, o')] e), .cons f al⟩
theorem Sb.skip {p : Addr × Ob} (y : Sb K P L' L) : Sb K P L' (p :: L) := by
  obtain ⟨L1, z, e, al⟩ := y
  exact ⟨L1, p :: z, (e.cons p).trans List.perm_middle.symm, al⟩
theorem Sb.skipB {A : List (Addr × Ob)} (y : Sb K P L' L) : Sb K P L' (A ++ L) := by
  obtain ⟨L1, z, e, al⟩ := y
  refine ⟨L1, A ++ z, (List.Perm.append_left A e).trans ?_, al⟩
  rw [← List.append_assoc, ← List.append_assoc]
  exact List.Perm.append_right z List.perm_append_comm
def Ps (P' P : List Pf) : Prop := ∀ r ∈ P', r ∈ P
theorem Ps.refl : Ps P P := fun _ h => h
theorem Ps.nil : Ps [] P := fun _ h => nomatch h
theorem Ps.skip {q : Pf} (h : Ps P' P) : Ps P' (q :: P) := fun r hr => List.mem_cons_of_mem _ (h r hr)
theorem Ps.cons {q : Pf} (m : q ∈ P) (h : Ps P' P) : Ps (q :: P') P := fun r hr => (List.mem_cons.mp hr).elim (fun e => e ▸ m) (h r)
theorem Own.sub (h : Own K H L P) (s : Sb K P L' L) (q : Ps P' P) : Own K H L' P' := by
  obtain ⟨M, nd, hl, hs, hp⟩ := h.ex
  obtain ⟨L1, z, e, al⟩ := s
  have nd' := (e.map Prod.fst).nodup_iff.mp nd
  rw [List.map_append, List.nodup_append, al.fst] at nd'
  exact ⟨M, nd'.1, al.hd hp fun p hp' => hl p (e.mem_iff.mpr (List.mem_append.mpr (.inl hp'))), hs, fun r hr => hp r (q r hr)⟩
theorem Own.pick (h : Own K H L P) (m : Pk L B R) : Own K H (B ++ R) P := h.sub ⟨B ++ R, [], by rw [List.append_nil]; exact m, Al.refl _⟩ Ps.refl
/-- a flat value -/
def fv : PyData → V
  | .int i => .int i
  | .bool b => .bl b
  | .str x => .str x
  | _ => .non
def flatD : PyData → Bool
  | .int _ => true
  | .bool _ => true
  | .str _ => true
  | .none => true
  | _ => false
theorem dp_flat {M : Hp} : ∀ {d : PyData} {v : V}, Dp K M v d → flatD d = true → v = fv d
  | _, _, .non, _ => rfl
  | _, _, .bl _, _ => rfl
  | _, _, .int _, _ => rfl
  | _, _, .str _, _ => rfl
  | _, _, .lst _ _, h => nomatch h
  | _, _, .tup _ _, h => nomatch h
theorem dp_flats {M : Hp} : ∀ {vs : List V} {ds : List PyData}, DpAll K M vs ds → ds.all flatD = true → vs = ds.map fv
  | _, _, .nil, _ => rfl
  | _, _, .cons x y, h => by
    rw [List.all_cons, Bool.and_eq_true] at h
    rw [List.map_cons, ← dp_flat x h.1, ← dp_flats y h.2]
/-- a tuple of flat values opened -/
theorem Own.opn {v : V} {ds : List PyData} (h : Own K H L P) (x : Dv1 K P v (.tuple ds)) (hf : ds.all flatD = true := by rfl) : ∃ t, v = .ref t ∧ Own K H L (.sq t (ds.map fv) :: P) := by
  obtain ⟨M, nd, hl, hs, hp⟩ := h.ex
  cases x M hp with
  | @tup t xs _ hq ha =>
    refine ⟨t, rfl, M, nd, hl, hs, fun q hq' => ?_⟩
    rcases List.mem_cons.mp hq' with rfl | hq'
    · rw [← dp_flats ha hf]; exact hq
    · exact hp q hq'
/-- a list that is given up: it never changes any more -/
theorem Own.give (h : Own K H L P) (m : Pk L [(a, Ob.raw (.lst vs))] R) : Own K H R (.lst a vs :: P) := by
  have h2 : Own K H ((a, Ob.raw (.lst vs)) :: R) P := h.pick m
  obtain ⟨M, nd, hl, hs, hp⟩ := h2.ex
  rw [List.map_cons, List.nodup_cons] at nd
  have ha : H a = some (.lst vs) := (hl (a, Ob.raw (.lst vs)) List.mem_cons_self).1
  have ma : M a = none := (hl (a, Ob.raw (.lst vs)) List.mem_cons_self).2
  have sm : Same M (upd M a (.lst vs)) := same_upd ma
  refine ⟨upd M a (.lst vs), nd.2, fun q hq => ?_, fun b u hb => ?_, fun r hr => ?_⟩
  · have n : q.1 ≠ a := fun z => nd.1 (List.mem_map.mpr ⟨q, hq, z⟩)
    have := hl q (List.mem_cons_of_mem _ hq)
    exact ⟨this.1.same sm rfl, by rw [upd_ne n]; exact this.2⟩
  · by_cases z : b = a
    · subst z; rw [upd_same] at hb; rw [ha]; exact hb
    · rw [upd_ne z] at hb; exact hs _ _ hb
  · rcases List.mem_cons.mp hr with rfl | hr
    · exact (upd_same : upd M a (.lst vs) a = _)
    · exact r.same sm (hp r hr)
theorem Own.none_of (h : Own K H L P) (f : H p = none) : ∀ q ∈ L, q.1 ≠ p := fun q hq z => by
  obtain ⟨M, nd, hl, hs, hp⟩ := h.ex
  obtain ⟨u, hu⟩ := (hl q hq).1.some; rw [z, f] at hu; cases hu
/-- owned of nothing: a start -/
theorem Own.start {K : PySem.W.Frag} {H : Hp} : Own K H [] [] := ⟨fun _ => none, by simp, fun _ h => (nomatch h), fun _ _ h => (nomatch h), fun _ h => (nomatch h)⟩
theorem pg_trip {X : Cx} {i j l : Nat} {x y z : Str} {p1 p2 p3 pos : Pos} {kk : Nat} (hc : X.calm = true) (hN : X.N.Nodup) (hi : X.N[i]? = some x) (hj : X.N[j]? = some y) (hl : X.N[l]? = some z) (hx : Loc X.env.scope x) (hy : Loc X.env.scope y) (hz : Loc X.env.scope z)
    (hf : X.fn x = true ∨ X.env.scope.names.lookup x = some .local := by first | exact .inl rfl | exact .inr rfl | assumption) (hf2 : X.fn y = true ∨ X.env.scope.names.lookup y = some .local := by first | exact .inl rfl | exact .inr rfl | assumption) (hf3 : X.fn z = true ∨ X.env.scope.names.lookup z = some .local := by first | exact .inl rfl | exact .inr rfl | assumption)
    (hn : (assignEach [Expr.Name x p1, .Name y p2, .Name z p3] X.env).length = 3 := by rfl) (hst : (assignEach [Expr.Name x p1, .Name y p2, .Name z p3] X.env).findIdx? (·.1) = none := by rfl)
    (hs : (assignEach [Expr.Name x p1, .Name y p2, .Name z p3] X.env).map (·.2) = assign (.Name x p1) X.env :: (assignEach [Expr.Name y p2, .Name z p3] X.env).map (·.2) := by rfl)
    (hs2 : (assignEach [Expr.Name y p2, .Name z p3] X.env).map (·.2) = assign (.Name y p2) X.env :: (assignEach [Expr.Name z p3] X.env).map (·.2) := by rfl)
    (hs3 : (assignEach [Expr.Name z p3] X.env).map (·.2) = assign (.Name z p3) X.env :: (assignEach [] X.env).map (·.2) := by rfl) :
    PG X (.Tuple [.Name x p1, .Name y p2, .Name z p3] kk pos) (gTup X.K 3 (gCons (gName i) (gCons (gName j) (gCons (gName l) gNil)))) :=
  pg_tup hc (pgs_cons (pg_name hN hi hx hf) (pgs_cons (pg_name hN hj hy hf2) (pgs_cons (pg_name hN hl hz hf3) pgs_nil hs3) hs2) hs) hn hst
theorem kit_self' {K : PySem.W.Frag} {C : Addr} : PySem.W.kitOne K (.ref C) (.ref C) = some true := if_pos (beq_self_eq_true _)
/-! ### comprehensions -/
section
variable {g : TG} {te : TE} {tt : TT} {wv : List Nat} {σ : L2.St} {D : Addr} {Qd : Hp → Prop} {xs : List V}
theorem own_app {i : Nat} {y : V} {d : PyData} {vs : List V} (q' : Own K H ((D, .L ds) :: L) P) (ev : H D = some (.lst vs)) (dv : Dv1 K P y d) : Own K (upd H D (.lst (vs ++ [y]))) ((D, .L (ds ++ [d])) :: L) P := by
  refine q'.setU .head rfl fun M hp ho => ⟨vs ++ [y], upd_same, ?_⟩
  obtain ⟨vs', ev', dvs⟩ := ho _ List.mem_cons_self
  rw [ev] at ev'
  cases ev'
  exact L2.DpAll.app' dvs (.cons (dv M hp) .nil)
/-- a new list of data, over any walk -/
theorem lc_ownW {J : It} {n : Nat} {G : Hp → Prop} {Y : Nat → Hp → V → Hp → Prop} (w : Walk J n G Y) (ds : List PyData) (h : Own K H1 L P) (hD : H1 D = none) (hx : n = ds.length) (hz : n ≤ 10000)
    (ha : ∀ (H : Hp) (L' : List (Addr × Ob)) (P' : List Pf), (∀ p ∈ L, p ∈ L') → Ps P P' → Own K H L' P' → G H)
    (hs : ∀ (i : Nat) (x : V) (d : PyData) (H H' : Hp) (P' : List Pf) (Q : VK), i < n → Y i H x H' → ds[i]? = some d → Ps P P' → Own K H ((D, .L (ds.take i)) :: L) P' →
      (∀ (y : V) (H'' : Hp) (P'' : List Pf), Ps P' P'' → Own K H'' ((D, .L (ds.take i)) :: L) P'' → Dv1 K P'' y d → Q y H'') → g x (wipe σ wv) H' fun σ2 H2 => wipe σ2 wv = wipe σ wv ∧ te σ2 H2 Q)
    (hd : ∀ (H' : Hp) (P' : List Pf), Ps P P' → Own K H' ((D, .L ds) :: L) P' → Qd H') :
    ∃ W : Nat → Nat → Hp → Prop, (∃ m, W 0 m (upd H1 D (.lst []))) ∧ ∀ i m H, W i m H →
      (J.stop i H ∧ Qd H) ∨ (J.go i H ∧ ∃ Nx : Hp → Prop, (∀ H', Nx H' → ∃ m', m' < m ∧ W (i + 1) m' H') ∧ ∀ x H', J.yld i H x H' → g x (wipe σ wv) H' fun σ2 H2 => wipe σ2 wv = wipe σ wv ∧ tYes σ2 H2 fun b H3 =>
        if b = true then te σ2 H3 fun y H4 => ∃ acc, H4 D = some (.lst acc) ∧ acc.length < sizeLine ∧ Nx (upd H4 D (.lst (acc ++ [y]))) else Nx H3) := by
  refine lc_it w (fun i H => ∃ P', Ps P P' ∧ Own K H ((D, .L (ds.take i)) :: L) P') ⟨P, Ps.refl, ?_⟩ (fun i H _ ⟨P', s, q⟩ => ha H _ P' (fun p m => List.mem_cons_of_mem _ m) s q) (fun i x H H' hi ⟨P', s, q⟩ y => ?_) (fun H ⟨P', s, q⟩ => hd H P' s (by rw [List.take_of_length_le (by omega)] at q; exact q))
  · have h2 := h.new hD (o := .lst []) rfl
    exact h2.closeL (vs := []) List.mem_cons_self (by rw [List.take_zero]; exact Dv.nil) .head
  · have hi2 : i < ds.length := by omega
    refine hs i x ds[i] H H' P' _ hi y (List.getElem?_eq_getElem hi2) s q (fun y H'' P'' s' q' dv => ?_)
    obtain ⟨vs, ev, dvs⟩ := q'.lst List.mem_cons_self
    have len := dvs.len
    rw [List.length_take] at len
    refine ⟨vs, ev, size_lt (by omega), P'', fun r m => s' r (s r m), ?_⟩
    rw [List.take_add_one, List.getElem?_eq_getElem hi2]
    exact own_app (i := i) q' ev dv
/-- the same of flat values, as they are -/
theorem lc_rawW {J : It} {n : Nat} {G : Hp → Prop} {Y : Nat → Hp → V → Hp → Prop} (w : Walk J n G Y) (ys : List V) (h : Own K H1 L P) (hD : H1 D = none) (hx : n = ys.length) (hz : n ≤ 10000)
    (ha : ∀ (H : Hp) (L' : List (Addr × Ob)) (P' : List Pf), (∀ p ∈ L, p ∈ L') → Ps P P' → Own K H L' P' → G H)
    (hs : ∀ (i : Nat) (x y : V) (H H' : Hp) (P' : List Pf) (Q : VK), i < n → Y i H x H' → ys[i]? = some y → Ps P P' → Own K H ((D, .raw (.lst (ys.take i))) :: L) P' →
      (∀ (H'' : Hp) (P'' : List Pf), Ps P' P'' → Own K H'' ((D, .raw (.lst (ys.take i))) :: L) P'' → Q y H'') → g x (wipe σ wv) H' fun σ2 H2 => wipe σ2 wv = wipe σ wv ∧ te σ2 H2 Q)
    (hd : ∀ (H' : Hp) (P' : List Pf), Ps P P' → Own K H' ((D, .raw (.lst ys)) :: L) P' → Qd H') :
    ∃ W : Nat → Nat → Hp → Prop, (∃ m, W 0 m (upd H1 D (.lst []))) ∧ ∀ i m H, W i m H →
      (J.stop i H ∧ Qd H) ∨ (J.go i H ∧ ∃ Nx : Hp → Prop, (∀ H', Nx H' → ∃ m', m' < m ∧ W (i + 1) m' H') ∧ ∀ x H', J.yld i H x H' → g x (wipe σ wv) H' fun σ2 H2 => wipe σ2 wv = wipe σ wv ∧ tYes σ2 H2 fun b H3 =>
        if b = true then te σ2 H3 fun y H4 => ∃ acc, H4 D = some (.lst acc) ∧ acc.length < sizeLine ∧ Nx (upd H4 D (.lst (acc ++ [y]))) else Nx H3) := by
  refine lc_it w (fun i H => ∃ P', Ps P P' ∧ Own K H ((D, .raw (.lst (ys.take i))) :: L) P') ⟨P, Ps.refl, ?_⟩ (fun i H _ ⟨P', s, q⟩ => ha H _ P' (fun p m => List.mem_cons_of_mem _ m) s q) (fun i x H H' hi ⟨P', s, q⟩ y => ?_) (fun H ⟨P', s, q⟩ => hd H P' s (by rw [List.take_of_length_le (by omega)] at q; exact q))
  · rw [List.take_zero]; exact h.new hD rfl
  · have hi2 : i < ys.length := by omega
    refine hs i x ys[i] H H' P' _ hi y (List.getElem?_eq_getElem hi2) s q (fun H'' P'' s' q' => ?_)
    refine ⟨ys.take i, q'.raw List.mem_cons_self, size_lt (by rw [List.length_take]; omega), P'', fun r m => s' r (s r m), ?_⟩
    rw [List.take_add_one, List.getElem?_eq_getElem hi2]
    exact q'.set .head rfl
/-- sifted: those of zs that t takes, as they are; tt tells t, te the thing -/
theorem lc_siftW {α : Type} {J : It} {G : Hp → Prop} {Y : Nat → Hp → V → Hp → Prop} (zs : List α) (f : α → V) (t : α → Bool) (w : Walk J zs.length G Y) (h : Own K H1 L P) (hD : H1 D = none) (hz : zs.length ≤ 10000)
    (ha : ∀ (H : Hp) (L' : List (Addr × Ob)) (P' : List Pf), (∀ p ∈ L, p ∈ L') → Ps P P' → Own K H L' P' → G H)
    (hs : ∀ (i : Nat) (z : α) (x : V) (H H' : Hp) (P' : List Pf) (ys : List V) (Qn : Hp → Prop) (Qy : VK), zs[i]? = some z → Y i H x H' → Ps P P' → Own K H ((D, .raw (.lst ys)) :: L) P' →
      (t z = false → ∀ (H'' : Hp) (P'' : List Pf), Ps P' P'' → Own K H'' ((D, .raw (.lst ys)) :: L) P'' → Qn H'') →
      (t z = true → ∀ (H'' : Hp) (P'' : List Pf), Ps P' P'' → Own K H'' ((D, .raw (.lst ys)) :: L) P'' → Qy (f z) H'') → g x (wipe σ wv) H' fun σ2 H2 => wipe σ2 wv = wipe σ wv ∧ tt σ2 H2 fun b H3 => if b = true then te σ2 H3 Qy else Qn H3)
    (hd : ∀ (H' : Hp) (P' : List Pf), Ps P P' → Own K H' ((D, .raw (.lst ((zs.filter t).map f))) :: L) P' → Qd H') :
    ∃ W : Nat → Nat → Hp → Prop, (∃ m, W 0 m (upd H1 D (.lst []))) ∧ ∀ i m H, W i m H →
      (J.stop i H ∧ Qd H) ∨ (J.go i H ∧ ∃ Nx : Hp → Prop, (∀ H', Nx H' → ∃ m', m' < m ∧ W (i + 1) m' H') ∧ ∀ x H', J.yld i H x H' → g x (wipe σ wv) H' fun σ2 H2 => wipe σ2 wv = wipe σ wv ∧ tt σ2 H2 fun b H3 =>
        if b = true then te σ2 H3 fun y H4 => ∃ acc, H4 D = some (.lst acc) ∧ acc.length < sizeLine ∧ Nx (upd H4 D (.lst (acc ++ [y]))) else Nx H3) := by
  refine lc_it w (fun i H => ∃ P', Ps P P' ∧ Own K H ((D, .raw (.lst (((zs.take i).filter t).map f))) :: L) P') ⟨P, Ps.refl, ?_⟩ (fun i H _ ⟨P', s, q⟩ => ha H _ P' (fun p m => List.mem_cons_of_mem _ m) s q) (fun i x H H' hi ⟨P', s, q⟩ y => ?_) (fun H ⟨P', s, q⟩ => hd H P' s (by rw [List.take_of_length_le (by omega)] at q; exact q))
  · rw [List.take_zero]; exact h.new hD rfl
  · have et : zs.take (i + 1) = zs.take i ++ [zs[i]] := by rw [List.take_add_one, List.getElem?_eq_getElem hi]; rfl
    refine hs i zs[i] x H H' P' _ _ _ (List.getElem?_eq_getElem hi) y s q (fun tn H'' P'' s' q' => ⟨P'', fun r m => s' r (s r m), ?_⟩) (fun ty H'' P'' s' q' => ?_)
    · rw [et, List.filter_append, List.filter_cons, tn]; simpa using q'
    · refine ⟨_, q'.raw List.mem_cons_self, size_lt (by rw [List.length_map]; exact Nat.le_trans (List.length_filter_le _ _) (by rw [List.length_take]; omega)), P'', fun r m => s' r (s r m), ?_⟩
      have e2 : ((zs.take (i + 1)).filter t).map f = ((zs.take i).filter t).map f ++ [f zs[i]] := by rw [et, List.filter_append, List.filter_cons, ty]; simp
      rw [e2]
      exact q'.set .head rfl
end
/-! ### the pot -/
def PotO (o : HO) : Prop := ∃ x y : Int, o = .lst [.int x, .int y] ∧ 0 ≤ x ∧ 0 ≤ y ∧ y < 4294967296
def pt (a : Addr) : List (Addr × Ob) := [(a, .such PotO)]
/-- called with the pot and how many: a number below that, and the pot is still one -/
def spDrw (K : PySem.W.Frag) : Sp := fun vs H Q _ => ∃ (a : Addr) (n : Int) (R : List (Addr × Ob)) (P : List Pf), vs = [.ref a, .int n] ∧ Own K H (pt a ++ R) P ∧ 0 < n ∧ n < 1073741824 ∧
  ∀ (d : Int) (H' : Hp), 0 ≤ d → d < n → Own K H' (pt a ++ R) P → Q (.int d) H'
end Hx

set_option Elab.async false
set_option linter.all false
set_option maxRecDepth 100000
set_option maxHeartbeats 4000000
/-! cuts: what holds behind a statement, behind a test, is said once for all ways that come there -/
namespace Hx
open PySem PySem.Spec PyProof.Rows L2
def tMid (t : TS) : TS := fun D σ H => Stop (∃ Mid : L2.St → Hp → Prop, t { D with nx := Mid } σ H ∧ ∀ σ' H', Mid σ' H' → D.nx σ' H')
theorem ps_mid {X : Cx} {st : Stmt} {t : TS} (h : PS X st t) : PS X st (tMid t) := by
  refine ⟨fun pins s σ H D I q => ?_⟩
  obtain ⟨Mid, q, r⟩ := q.h
  refine thn (h.run pins s σ H { D with nx := Mid } I q) fun f s1 q => ?_
  cases f with
  | next =>
    obtain ⟨σ', H', I', q⟩ := q
    exact ⟨σ', H', I', r _ _ q⟩
  | ret v => exact q
  | brk => exact q
  | cont => exact q
def tTMid (t : TT) : TT := fun σ H Q => Stop (∃ Mid : Bool → Hp → Prop, t σ H Mid ∧ ∀ b H', Mid b H' → Q b H')
theorem pt_mid {X : Cx} {c : Expr} {t : TT} (h : PT X c t) : PT X c (tTMid t) := by
  refine ⟨fun pins s σ H Q I q => ?_⟩
  obtain ⟨Mid, q, r⟩ := q.h
  refine thn (h.run pins s σ H Mid I q) fun d s1 q => ?_
  obtain ⟨H1, I1, q⟩ := q
  exact ⟨H1, I1, r _ _ q⟩
def tEMid (t : TE) : TE := fun σ H Q => Stop (∃ Mid : VK, t σ H Mid ∧ ∀ v H', Mid v H' → Q v H')
theorem pe_mid {X : Cx} {e : Expr} {t : TE} (h : PE X e t) : PE X e (tEMid t) := by
  refine ⟨fun pins s σ H Q I q => ?_⟩
  obtain ⟨Mid, q, r⟩ := q.h
  refine thn (h.run pins s σ H Mid I q) fun d s1 q => ?_
  obtain ⟨v, H1, I1, rv, q⟩ := q
  exact ⟨v, H1, I1, rv, r _ _ q⟩
theorem Ps.trans {P P' P'' : List Pf} (h : Ps P P') (k : Ps P' P'') : Ps P P'' := fun r hr => k r (h r hr)
end Hx

set_option Elab.async false
set_option linter.all false
set_option maxRecDepth 100000
set_option maxHeartbeats 4000000
/-! HsDict: dicts with keys of ints in owned heaps: look-ups, stores, walks under a lock, comprehensions; sorted lists -/
namespace Hx
open PySem PySem.Spec PyProof.Rows L2
/-- a target x, (y, z) -/
theorem pg_pairN {X : Cx} {i j l : Nat} {x y z : Str} {p1 p2 p3 pos pos2 : Pos} {kk kk2 : Nat} (hc : X.calm = true) (hN : X.N.Nodup) (hi : X.N[i]? = some x) (hj : X.N[j]? = some y) (hl : X.N[l]? = some z) (hx : Loc X.env.scope x) (hy : Loc X.env.scope y) (hz : Loc X.env.scope z)
    (hf : X.fn x = true ∨ X.env.scope.names.lookup x = some .local := by first | exact .inl rfl | exact .inr rfl | assumption) (hf2 : X.fn y = true ∨ X.env.scope.names.lookup y = some .local := by first | exact .inl rfl | exact .inr rfl | assumption) (hf3 : X.fn z = true ∨ X.env.scope.names.lookup z = some .local := by first | exact .inl rfl | exact .inr rfl | assumption)
    (hn : (assignEach [Expr.Name x p1, .Tuple [.Name y p2, .Name z p3] kk2 pos2] X.env).length = 2 := by rfl) (hst : (assignEach [Expr.Name x p1, .Tuple [.Name y p2, .Name z p3] kk2 pos2] X.env).findIdx? (·.1) = none := by rfl)
    (hs : (assignEach [Expr.Name x p1, .Tuple [.Name y p2, .Name z p3] kk2 pos2] X.env).map (·.2) = assign (.Name x p1) X.env :: (assignEach [Expr.Tuple [.Name y p2, .Name z p3] kk2 pos2] X.env).map (·.2) := by rfl)
    (hs2 : (assignEach [Expr.Tuple [.Name y p2, .Name z p3] kk2 pos2] X.env).map (·.2) = assign (.Tuple [.Name y p2, .Name z p3] kk2 pos2) X.env :: (assignEach [] X.env).map (·.2) := by rfl)
    (hn' : (assignEach [Expr.Name y p2, .Name z p3] X.env).length = 2 := by rfl) (hst' : (assignEach [Expr.Name y p2, .Name z p3] X.env).findIdx? (·.1) = none := by rfl)
    (hs' : (assignEach [Expr.Name y p2, .Name z p3] X.env).map (·.2) = assign (.Name y p2) X.env :: (assignEach [Expr.Name z p3] X.env).map (·.2) := by rfl)
    (hs2' : (assignEach [Expr.Name z p3] X.env).map (·.2) = assign (.Name z p3) X.env :: (assignEach [] X.env).map (·.2) := by rfl) :
    PG X (.Tuple [.Name x p1, .Tuple [.Name y p2, .Name z p3] kk2 pos2] kk pos) (gTup X.K 2 (gCons (gName i) (gCons (gTup X.K 2 (gCons (gName j) (gCons (gName l) gNil))) gNil))) :=
  pg_tup hc (pgs_cons (pg_name hN hi hx hf) (pgs_cons (pg_pair hc hN hj hl hy hz hf2 hf3 hn' hst' hs' hs2') pgs_nil hs2) hs) hn hst
/-! ### pairs as tables, of data -/
def valD (kds : List (Key × PyData)) (k : Key) : Option PyData := (kds.find? fun kv => decide (kv.1 = k)).map (·.2)
def putD (kds : List (Key × PyData)) (k : Key) (d : PyData) : List (Key × PyData) :=
  if (kds.any fun kv => decide (kv.1 = k)) = true then kds.map (fun kv => if kv.1 = k then (kv.1, d) else kv) else kds ++ [(k, d)]
def dropD (kds : List (Key × PyData)) (k : Key) : List (Key × PyData) := kds.filter fun kv => decide (kv.1 ≠ k)
section
variable {K : PySem.W.Frag} {P : List Pf}
theorem keys_cons {p : Key × V} {kvs : List (Key × V)} {q : Key × PyData} {kds : List (Key × PyData)} (h : (p :: kvs).map Prod.fst = (q :: kds).map Prod.fst) : p.1 = q.1 ∧ kvs.map Prod.fst = kds.map Prod.fst := by
  simpa using h
theorem valV_isSome : ∀ {kvs : List (Key × V)} {kds : List (Key × PyData)} (k : Key), kvs.map Prod.fst = kds.map Prod.fst → (valV kvs k).isSome = (valD kds k).isSome
  | [], [], _, _ => rfl
  | [], _ :: _, _, h => by simp at h
  | _ :: _, [], _, h => by simp at h
  | p :: kvs, q :: kds, k, h => by
    obtain ⟨h1, h2⟩ := keys_cons h
    have ih := valV_isSome k h2
    by_cases e : p.1 = k
    · have e2 : q.1 = k := h1 ▸ e
      simp [valV, valD, List.find?_cons, e, e2]
    · have e2 : ¬ q.1 = k := h1 ▸ e
      simp only [valV, valD] at ih
      simp [valV, valD, List.find?_cons, e, e2, ih]
theorem valV_dp {M : Hp} : ∀ {kvs : List (Key × V)} {kds : List (Key × PyData)} {k : Key} {v : V} {d : PyData}, kvs.map Prod.fst = kds.map Prod.fst → DpAll K M (kvs.map Prod.snd) (kds.map Prod.snd) → valV kvs k = some v → valD kds k = some d → Dp K M v d
  | [], _, k, v, d, _, _, e, _ => by simp [valV] at e
  | _ :: _, [], _, _, _, h, _, _, _ => by simp at h
  | p :: kvs, q :: kds, k, v, d, h, hd, e1, e2 => by
    obtain ⟨h1, h2⟩ := keys_cons h
    cases hd with
    | cons x y =>
      by_cases e : p.1 = k
      · have e' : q.1 = k := h1 ▸ e
        simp [valV, List.find?_cons, e] at e1
        simp [valD, List.find?_cons, e'] at e2
        subst e1; subst e2
        exact x
      · have e' : ¬ q.1 = k := h1 ▸ e
        refine valV_dp (k := k) h2 y ?_ ?_
        · simpa [valV, List.find?_cons, e] using e1
        · simpa [valD, List.find?_cons, e'] using e2
theorem Dv.val {kvs : List (Key × V)} {kds : List (Key × PyData)} {k : Key} {v : V} {d : PyData} (x : Dv K P (kvs.map Prod.snd) (kds.map Prod.snd)) (hk : kvs.map Prod.fst = kds.map Prod.fst) (e1 : valV kvs k = some v) (e2 : valD kds k = some d) : Dv1 K P v d := fun M h => valV_dp hk (x M h) e1 e2
theorem valV_of {kvs : List (Key × V)} {kds : List (Key × PyData)} {k : Key} {d : PyData} (hk : kvs.map Prod.fst = kds.map Prod.fst) (e : valD kds k = some d) : ∃ v, valV kvs k = some v := by
  have := valV_isSome k hk
  rw [e] at this
  exact Option.isSome_iff_exists.mp this
theorem valV_ofN {kvs : List (Key × V)} {kds : List (Key × PyData)} {k : Key} (hk : kvs.map Prod.fst = kds.map Prod.fst) (e : valD kds k = none) : valV kvs k = none := by
  have := valV_isSome k hk
  rw [e] at this
  exact Option.not_isSome_iff_eq_none.mp (by rw [this]; decide)
theorem any_keys : ∀ {kvs : List (Key × V)} {kds : List (Key × PyData)} (k : Key), kvs.map Prod.fst = kds.map Prod.fst → (kvs.any fun kv => decide (kv.1 = k)) = (kds.any fun kv => decide (kv.1 = k))
  | [], [], _, _ => rfl
  | [], _ :: _, _, h => by simp at h
  | _ :: _, [], _, h => by simp at h
  | p :: kvs, q :: kds, k, h => by
    obtain ⟨h1, h2⟩ := keys_cons h
    rw [List.any_cons, List.any_cons, any_keys k h2, h1]
theorem putK_fst {kvs : List (Key × V)} {kds : List (Key × PyData)} (hk : kvs.map Prod.fst = kds.map Prod.fst) (k : Key) (v : V) (d : PyData) : (putK kvs k v).map Prod.fst = (putD kds k d).map Prod.fst := by
  have e : ∀ {α : Type} (y : α) (l : List (Key × α)), (l.map fun kv => if kv.1 = k then (kv.1, y) else kv).map Prod.fst = l.map Prod.fst := fun y l => by
    rw [List.map_map]
    refine List.map_congr_left fun kv _ => ?_
    simp only [Function.comp]
    split <;> rfl
  unfold putK putD
  rw [any_keys k hk]
  split
  · rw [e, e, hk]
  · rw [List.map_append, List.map_append, hk]; rfl
theorem put_dp {M : Hp} : ∀ {kvs : List (Key × V)} {kds : List (Key × PyData)} {k : Key} {v : V} {d : PyData}, kvs.map Prod.fst = kds.map Prod.fst → DpAll K M (kvs.map Prod.snd) (kds.map Prod.snd) → Dp K M v d →
    DpAll K M ((kvs.map fun kv => if kv.1 = k then (kv.1, v) else kv).map Prod.snd) ((kds.map fun kv => if kv.1 = k then (kv.1, d) else kv).map Prod.snd)
  | [], [], _, _, _, _, _, _ => .nil
  | [], _ :: _, _, _, _, h, _, _ => by simp at h
  | _ :: _, [], _, _, _, h, _, _ => by simp at h
  | p :: kvs, q :: kds, k, v, d, h, hd, x => by
    obtain ⟨h1, h2⟩ := keys_cons h
    cases hd with
    | cons a b =>
      have ih := put_dp (k := k) h2 b x
      simp only [List.map_cons]
      refine .cons ?_ ih
      by_cases e : p.1 = k
      · rw [if_pos e, if_pos (h1 ▸ e)]; exact x
      · rw [if_neg e, if_neg (h1 ▸ e)]; exact a
theorem Dv.put {kvs : List (Key × V)} {kds : List (Key × PyData)} {k : Key} {v : V} {d : PyData} (x : Dv K P (kvs.map Prod.snd) (kds.map Prod.snd)) (hk : kvs.map Prod.fst = kds.map Prod.fst) (y : Dv1 K P v d) : Dv K P ((putK kvs k v).map Prod.snd) ((putD kds k d).map Prod.snd) := fun M h => by
  unfold putK putD
  rw [any_keys k hk]
  split
  · exact put_dp hk (x M h) (y M h)
  · rw [List.map_append, List.map_append]
    exact L2.DpAll.app' (x M h) (.cons (y M h) .nil)
theorem dropK_fst : ∀ {kvs : List (Key × V)} {kds : List (Key × PyData)} (k : Key), kvs.map Prod.fst = kds.map Prod.fst → (dropK kvs k).map Prod.fst = (dropD kds k).map Prod.fst
  | [], [], _, _ => rfl
  | [], _ :: _, _, h => by simp at h
  | _ :: _, [], _, h => by simp at h
  | p :: kvs, q :: kds, k, h => by
    obtain ⟨h1, h2⟩ := keys_cons h
    have ih := dropK_fst k h2
    unfold dropK dropD at ih ⊢
    rw [List.filter_cons, List.filter_cons, h1]
    split
    · rw [List.map_cons, List.map_cons, ih, h1]
    · exact ih
theorem drop_dp {M : Hp} : ∀ {kvs : List (Key × V)} {kds : List (Key × PyData)} {k : Key}, kvs.map Prod.fst = kds.map Prod.fst → DpAll K M (kvs.map Prod.snd) (kds.map Prod.snd) → DpAll K M ((dropK kvs k).map Prod.snd) ((dropD kds k).map Prod.snd)
  | [], [], _, _, _ => .nil
  | [], _ :: _, _, h, _ => by simp at h
  | _ :: _, [], _, h, _ => by simp at h
  | p :: kvs, q :: kds, k, h, hd => by
    obtain ⟨h1, h2⟩ := keys_cons h
    cases hd with
    | cons a b =>
      have ih := drop_dp (k := k) h2 b
      unfold dropK dropD at ih ⊢
      rw [List.filter_cons, List.filter_cons, h1]
      split
      · exact .cons a ih
      · exact ih
theorem Dv.drop' {kvs : List (Key × V)} {kds : List (Key × PyData)} {k : Key} (x : Dv K P (kvs.map Prod.snd) (kds.map Prod.snd)) (hk : kvs.map Prod.fst = kds.map Prod.fst) : Dv K P ((dropK kvs k).map Prod.snd) ((dropD kds k).map Prod.snd) := fun M h => drop_dp hk (x M h)
/-! rows as a table -/
theorem valD_rows {α : Type} (key : α → Int) (dat : α → PyData) (rs : List α) (n : Int) : valD (rs.map fun r => (Sum.inl (key r), dat r)) (Sum.inl n) = (rs.find? fun r => decide (key r = n)).map dat := by
  unfold valD
  rw [List.find?_map, Option.map_map]
  congr 1
  congr 1
  funext r
  simp [Function.comp]
theorem dropD_rows {α : Type} (key : α → Int) (dat : α → PyData) (rs : List α) (n : Int) : dropD (rs.map fun r => (Sum.inl (key r), dat r)) (Sum.inl n) = (rs.filter fun r => decide (key r ≠ n)).map fun r => (Sum.inl (key r), dat r) := by
  unfold dropD
  rw [List.filter_map]
  congr 1
  congr 1
  funext r
  simp [Function.comp]
theorem putD_new {kds : List (Key × PyData)} {k : Key} {d : PyData} (h : valD kds k = none) : putD kds k d = kds ++ [(k, d)] := by
  unfold putD
  rw [if_neg]
  intro e
  obtain ⟨x, hx, he⟩ := List.any_eq_true.mp e
  unfold valD at h
  rw [Option.map_eq_none_iff, List.find?_eq_none] at h
  exact h x hx he
theorem putD_rows {α : Type} (key : α → Int) (dat : α → PyData) (rs : List α) (n : Int) (d : PyData) (f : α → α) (hin : ∃ r ∈ rs, key r = n) (hk : ∀ r, key (f r) = key r) (hd : ∀ r ∈ rs, key r = n → dat (f r) = d) (ho : ∀ r ∈ rs, key r ≠ n → f r = r) :
    putD (rs.map fun r => (Sum.inl (key r), dat r)) (Sum.inl n) d = (rs.map f).map fun r => (Sum.inl (key r), dat r) := by
  unfold putD
  rw [if_pos]
  · rw [List.map_map, List.map_map]
    refine List.map_congr_left fun r hr => ?_
    simp only [Function.comp]
    by_cases e : key r = n
    · rw [if_pos (by rw [e]), hk, hd r hr e]
    · rw [if_neg (fun z => e (by injection z)), ho r hr e]
  · obtain ⟨r, hr, e⟩ := hin
    rw [List.any_map]
    exact List.any_eq_true.mpr ⟨r, hr, by simp [Function.comp, e]⟩
end
/-! ### walker's facts -/
theorem DGet.ki {H : Hp} {a : Addr} {kvs : List (Key × V)} {n : Int} {o : Option V} (e : H a = some (.dK kvs)) (h : valV kvs (Sum.inl n) = o) : DGet H a (.int n) o := h ▸ DGet.k (k := Sum.inl n) e
theorem DGet.kiF {H : Hp} {a : Addr} {kvs : List (Key × V)} {n : Int} {o : Option V} {od : Obj} (e : H a = some (.frz od (.dK kvs))) (h : valV kvs (Sum.inl n) = o) : DGet H a (.int n) o := h ▸ .inl ⟨kvs, Sum.inl n, .inr ⟨od, e⟩, rfl, rfl⟩
theorem DPut.ki {H : Hp} {a : Addr} {kvs : List (Key × V)} {n : Int} {v : V} (e : H a = some (.dK kvs)) (hl : kvs.length < sizeLine) : DPut H a (.int n) v (upd H a (.dK (putK kvs (Sum.inl n) v))) := DPut.k (k := Sum.inl n) e hl
theorem at0 (v : V) (l : List V) : atI (v :: l) 0 = some v := by
  have h := atI_nat (xs := v :: l) (j := 0) (v := v) rfl
  exact h
theorem at1 (u v : V) (l : List V) : atI (u :: v :: l) 1 = some v := by
  have h := atI_nat (xs := u :: v :: l) (j := 1) (v := v) rfl
  exact h
theorem at2 (t u v : V) (l : List V) : atI (t :: u :: v :: l) 2 = some v := by
  have h := atI_nat (xs := t :: u :: v :: l) (j := 2) (v := v) rfl
  exact h
theorem isSome_ofV {o : Option V} {v : V} (h : o = some v) : o.isSome = true := by rw [h]; rfl
theorem kV_int {n : Int} : V.int n = kV (Sum.inl n) := rfl
/-! ### locks at which the walker stops -/
def tLockS (t : TS) : TS := fun D σ H => Stop (tLock t D σ H)
def tLockES (t : TE) : TE := fun σ H Q => Stop (tLockE t σ H Q)
theorem tLockS_eq (t : TS) : tLockS t = tLock t := by funext D σ H; exact stop_eq
theorem tLockES_eq (t : TE) : tLockES t = tLockE t := by funext σ H Q; exact stop_eq
theorem ps_lockS {X : Cx} {st : Stmt} {t : TS} (h : PS X st t) : PS X st (tLockS t) := by rw [tLockS_eq]; exact ps_lock h
theorem pe_lockS {X : Cx} {e : Expr} {t : TE} (h : PE X e t) : PE X e (tLockES t) := by rw [tLockES_eq]; exact pe_lock h
variable {K : PySem.W.Frag} {H H1 M : Hp} {L L' R B : List (Addr × Ob)} {P P' : List Pf} {a d : Addr} {u : HO}
theorem Own.lockE {t : TE} {σ : L2.St} {Q : VK} (h : Own K H L P) (m : (d, Ob.raw u) ∈ L) (hm : Mut (some u)) (k : ∀ (od : Obj) (H1 : Hp), (∀ L', At L d (.raw (.frz od u)) L' → Own K H1 L' P) → t σ H1 fun v H' => H' d = some (.frz od u) ∧ Q v (upd H' d u)) : tLockES t σ H Q :=
  ⟨⟨d, u, h.raw m, hm, fun od => k od _ fun L' m' => h.set m' rfl⟩⟩
theorem Own.lockS {t : TS} {σ : L2.St} {D : L2.Ends} (h : Own K H L P) (m : (d, Ob.raw u) ∈ L) (hm : Mut (some u)) (k : ∀ (od : Obj) (H1 : Hp), (∀ L', At L d (.raw (.frz od u)) L' → Own K H1 L' P) →
    t ⟨fun σ' H' => H' d = some (.frz od u) ∧ D.nx σ' (upd H' d u), fun v H' => H' d = some (.frz od u) ∧ D.rt v (upd H' d u), fun σ' H' => H' d = some (.frz od u) ∧ D.bk σ' (upd H' d u), fun σ' H' => H' d = some (.frz od u) ∧ D.ct σ' (upd H' d u)⟩ σ H1) : tLockS t D σ H :=
  ⟨⟨d, u, h.raw m, hm, fun od => k od _ fun L' m' => h.set m' rfl⟩⟩
/-! ### a tuple of any data opened -/
theorem Own.opnD {v : V} {ds : List PyData} (h : Own K H L P) (x : Dv1 K P v (.tuple ds)) : ∃ t vs, v = .ref t ∧ vs.length = ds.length ∧ Own K H L (.sq t vs :: .dp vs ds :: P) := by
  obtain ⟨M, nd, hl, hs, hp⟩ := h.ex
  cases x M hp with
  | @tup t xs _ hq ha =>
    refine ⟨t, xs, rfl, ha.len, M, nd, hl, hs, fun q hq' => ?_⟩
    rcases List.mem_cons.mp hq' with rfl | hq'
    · exact hq
    rcases List.mem_cons.mp hq' with rfl | hq'
    · exact ha
    · exact hp q hq'
theorem Own.opn2 {v : V} {x y : PyData} (h : Own K H L P) (q : Dv1 K P v (.tuple [x, y])) : ∃ t a b, v = .ref t ∧ Own K H L (.sq t [a, b] :: .dp [a] [x] :: .dp [b] [y] :: P) := by
  obtain ⟨t, vs, e, hl, o⟩ := h.opnD q
  match vs, hl with
  | [a, b], _ =>
    refine ⟨t, a, b, e, ?_⟩
    have dv : Dv K (.sq t [a, b] :: .dp [a, b] [x, y] :: P) [a, b] [x, y] := Dv.of (List.mem_cons_of_mem _ List.mem_cons_self)
    have o2 := o.dv1 dv.tl.hd
    have o3 := o2.dv1 (v := a) (d := x) (fun M hM => dv.hd M fun q hq => hM q (List.mem_cons_of_mem _ hq))
    refine o3.sub (Sb.refl _) fun r hr => ?_
    simp only [List.mem_cons] at hr ⊢
    rcases hr with rfl | rfl | rfl | hr
    · simp
    · simp
    · simp
    · simp [hr]
theorem Dv1.mono {v : V} {d : PyData} (h : Dv1 K P v d) (s : Ps P P') : Dv1 K P' v d := fun M q => h M fun r hr => q r (s r hr)
theorem Dv.mono {vs : List V} {ds : List PyData} (h : Dv K P vs ds) (s : Ps P P') : Dv K P' vs ds := fun M q => h M fun r hr => q r (s r hr)
theorem Dv1.intD {v : V} {i : Int} (h : Dv1 K P v (.int i)) (o : Own K H L P) : v = .int i := by
  cases o.one h with | int _ => rfl
abbrev rMax2 : List V → Hp → VK → Prop := fun xs H Q => ∃ i j, xs = [.int i, .int j] ∧ Q (.int (if j > i then j else i)) H
/-! ### comprehensions of dicts -/
section
variable {g : TG} {te tk tv : TE} {tt : TT} {wv : List Nat} {σ : L2.St} {D : Addr} {Qd : Hp → Prop}
theorem dc_it {J : It} {n : Nat} {G : Hp → Prop} {Y : Nat → Hp → V → Hp → Prop} (w : Walk J n G Y) (Pv : Nat → Hp → Prop) (h0 : Pv 0 (upd H1 D (.dK []))) (hG : ∀ i H, i ≤ n → Pv i H → G H)
    (hs : ∀ i x H H', i < n → Pv i H → Y i H x H' → g x (wipe σ wv) H' fun σ2 H2 => wipe σ2 wv = wipe σ wv ∧ tt σ2 H2 fun b H3 =>
      if b = true then tk σ2 H3 fun y H4 => tv σ2 H4 fun z H5 => ∃ kvs k, y = kV k ∧ H5 D = some (.dK kvs) ∧ kvs.length < sizeLine ∧ Pv (i + 1) (upd H5 D (.dK (putK kvs k z))) else Pv (i + 1) H3) (hd : ∀ H, Pv n H → Qd H) :
    ∃ W : Nat → Nat → Hp → Prop, (∃ m, W 0 m (upd H1 D (.dK []))) ∧ ∀ i m H, W i m H →
      (J.stop i H ∧ Qd H) ∨ (J.go i H ∧ ∃ Nx : Hp → Prop, (∀ H', Nx H' → ∃ m', m' < m ∧ W (i + 1) m' H') ∧ ∀ x H', J.yld i H x H' → g x (wipe σ wv) H' fun σ2 H2 => wipe σ2 wv = wipe σ wv ∧ tt σ2 H2 fun b H3 =>
        if b = true then tk σ2 H3 fun y H4 => tv σ2 H4 fun z H5 => ∃ kvs k, y = kV k ∧ H5 D = some (.dK kvs) ∧ kvs.length < sizeLine ∧ Nx (upd H5 D (.dK (putK kvs k z))) else Nx H3) := by
  refine ⟨fun i m H => m = n - i ∧ i ≤ n ∧ Pv i H, ⟨n, by simp, Nat.zero_le _, h0⟩, ?_⟩
  rintro i m H ⟨rfl, hi, p⟩
  have q := hG i H hi p
  by_cases hlt : i < n
  · refine .inr ⟨w.goes i H hlt q, Pv (i + 1), fun H' p' => ⟨n - (i + 1), by omega, rfl, hlt, p'⟩, fun x H' y => hs i x H H' hlt p (w.yields i H x H' hlt q y)⟩
  · have e : i = n := by omega
    subst e
    exact .inl ⟨w.stops H q, hd H p⟩
/-- a new dict by a walk, sifted; its keys are all different -/
theorem dc_siftW {α : Type} {J : It} {G : Hp → Prop} {Y : Nat → Hp → V → Hp → Prop} (zs : List α) (key : α → Int) (dat : α → PyData) (t : α → Bool) (nd : (zs.map key).Nodup) (w : Walk J zs.length G Y) (h : Own K H1 L P) (hD : H1 D = none) (hz : zs.length ≤ 10000)
    (ha : ∀ (H : Hp) (L' : List (Addr × Ob)) (P' : List Pf), (∀ p ∈ L, p ∈ L') → Ps P P' → Own K H L' P' → G H)
    (hs : ∀ (i : Nat) (z : α) (x : V) (H H' : Hp) (P' : List Pf) (kds : List (Key × PyData)) (Qn : Hp → Prop) (Qy : V → V → Hp → Prop), zs[i]? = some z → Y i H x H' → Ps P P' → Own K H ((D, .D kds) :: L) P' →
      (t z = false → ∀ (H'' : Hp) (P'' : List Pf), Ps P' P'' → Own K H'' ((D, .D kds) :: L) P'' → Qn H'') →
      (t z = true → ∀ (y : V) (H'' : Hp) (P'' : List Pf), Ps P' P'' → Own K H'' ((D, .D kds) :: L) P'' → Dv1 K P'' y (dat z) → Qy (.int (key z)) y H'') →
      g x (wipe σ wv) H' fun σ2 H2 => wipe σ2 wv = wipe σ wv ∧ tt σ2 H2 fun b H3 => if b = true then tk σ2 H3 fun y H4 => tv σ2 H4 fun z H5 => Qy y z H5 else Qn H3)
    (hd : ∀ (H' : Hp) (P' : List Pf), Ps P P' → Own K H' ((D, .D ((zs.filter t).map fun z => (Sum.inl (key z), dat z))) :: L) P' → Qd H') :
    ∃ W : Nat → Nat → Hp → Prop, (∃ m, W 0 m (upd H1 D (.dK []))) ∧ ∀ i m H, W i m H →
      (J.stop i H ∧ Qd H) ∨ (J.go i H ∧ ∃ Nx : Hp → Prop, (∀ H', Nx H' → ∃ m', m' < m ∧ W (i + 1) m' H') ∧ ∀ x H', J.yld i H x H' → g x (wipe σ wv) H' fun σ2 H2 => wipe σ2 wv = wipe σ wv ∧ tt σ2 H2 fun b H3 =>
        if b = true then tk σ2 H3 fun y H4 => tv σ2 H4 fun z H5 => ∃ kvs k, y = kV k ∧ H5 D = some (.dK kvs) ∧ kvs.length < sizeLine ∧ Nx (upd H5 D (.dK (putK kvs k z))) else Nx H3) := by
  refine dc_it w (fun i H => ∃ P', Ps P P' ∧ Own K H ((D, .D (((zs.take i).filter t).map fun z => (Sum.inl (key z), dat z))) :: L) P') ⟨P, Ps.refl, ?_⟩ (fun i H _ ⟨P', s, q⟩ => ha H _ P' (fun p m => List.mem_cons_of_mem _ m) s q) (fun i x H H' hi ⟨P', s, q⟩ y => ?_) (fun H ⟨P', s, q⟩ => hd H P' s (by rw [List.take_of_length_le (Nat.le_refl _)] at q; exact q))
  · have h2 := h.new hD (o := .dK []) rfl
    exact h2.closeD (kvs := []) List.mem_cons_self (by rw [List.take_zero]; rfl) (by rw [List.take_zero]; exact Dv.nil) .head
  · have et : zs.take (i + 1) = zs.take i ++ [zs[i]] := by rw [List.take_add_one, List.getElem?_eq_getElem hi]; rfl
    refine hs i zs[i] x H H' P' _ _ _ (List.getElem?_eq_getElem hi) y s q (fun tn H'' P'' s' q' => ⟨P'', fun r m => s' r (s r m), ?_⟩) (fun ty y H'' P'' s' q' dv => ?_)
    · rw [et, List.filter_append, List.filter_cons, tn]; simpa using q'
    · obtain ⟨kvs, hk, o1⟩ := q'.openD List.mem_cons_self
      have hlen : kvs.length = (((zs.take i).filter t).map fun z => ((Sum.inl (key z) : Key), dat z)).length := by simpa using congrArg List.length hk
      have hraw : H'' D = some (.dK kvs) := (o1 _ .head).raw List.mem_cons_self
      refine ⟨kvs, Sum.inl (key zs[i]), rfl, hraw, size_lt (by
        rw [hlen, List.length_map]
        exact Nat.le_trans (List.length_filter_le _ _) (by rw [List.length_take]; omega)), P'', fun r m => s' r (s r m), ?_⟩
      have nv : valD (((zs.take i).filter t).map fun z => (Sum.inl (key z), dat z)) (Sum.inl (key zs[i])) = none := by
        rw [valD_rows, Option.map_eq_none_iff, List.find?_eq_none]
        intro r hr e
        have hr' := (List.mem_filter.mp hr).1
        have e' : key r = key zs[i] := of_decide_eq_true e
        have nd2 : ((zs.take (i + 1)).map key).Nodup := (nd.sublist ((List.take_sublist _ _).map key))
        rw [et, List.map_append, List.nodup_append] at nd2
        exact nd2.2.2 (key r) (List.mem_map_of_mem hr') (key zs[i]) (by simp) e'
      have e2 : ((zs.take (i + 1)).filter t).map (fun z => ((Sum.inl (key z) : Key), dat z)) = putD (((zs.take i).filter t).map fun z => (Sum.inl (key z), dat z)) (Sum.inl (key zs[i])) (dat zs[i]) := by
        rw [putD_new nv, et, List.filter_append, List.filter_cons, ty]; simp
      rw [e2]
      have q3 := o1 _ .head
      refine Own.sub (q3.setO (o := .dK (putK kvs (Sum.inl (key zs[i])) y)) (ob := .D (putD (((zs.take i).filter t).map fun z => (Sum.inl (key z), dat z)) (Sum.inl (key zs[i])) (dat zs[i]))) .head rfl fun M hp => ⟨putK kvs (Sum.inl (key zs[i])) y, upd_same, putK_fst hk _ _ _, ?_⟩) (Sb.refl _) (Ps.skip Ps.refl)
      exact (Dv.put (P := .dp (kvs.map Prod.snd) ((((zs.take i).filter t).map fun z => ((Sum.inl (key z) : Key), dat z)).map Prod.snd) :: P'') (Dv.of List.mem_cons_self) hk (fun M h => dv M fun q hq => h q (List.mem_cons_of_mem _ hq))) M hp
end
theorem walk_ints {K : PySem.W.Frag} {a : Addr} {ns : List Int} : Walk (Itl K a) ns.length (fun H => SqL K H a (ns.map V.int)) (YAt (ns.map V.int)) := by
  have w := walk_list (K := K) (a := a) (xs := ns.map V.int)
  rw [List.length_map] at w
  exact w
/-! ### sorted lists of ints -/
theorem sorted_eq : ∀ {xs ys : List Int}, xs.Perm ys → xs.Pairwise (· ≤ ·) → ys.Pairwise (· ≤ ·) → xs = ys
  | [], ys, p, _, _ => by
    have := p.length_eq
    simp at this
    exact (List.eq_nil_of_length_eq_zero this.symm).symm
  | x :: xs, [], p, _, _ => by
    have := p.length_eq
    simp at this
  | x :: xs, y :: ys, p, hx, hy => by
    have h1 := List.pairwise_cons.mp hx
    have h2 := List.pairwise_cons.mp hy
    have e : x = y := by
      have a : x ∈ y :: ys := p.mem_iff.mp List.mem_cons_self
      have b : y ∈ x :: xs := p.mem_iff.mpr List.mem_cons_self
      rcases List.mem_cons.mp a with a | a
      · exact a
      rcases List.mem_cons.mp b with b | b
      · exact b.symm
      · have := h1.1 y b
        have := h2.1 x a
        omega
    subst e
    rw [sorted_eq (List.Perm.cons_inv p) h1.2 h2.2]
/-- the rising list -/
def srt (xs : List Int) : List Int := xs.mergeSort (fun a b => decide (a ≤ b))
theorem srt_perm (xs : List Int) : (srt xs).Perm xs := List.mergeSort_perm _ _
theorem srt_pw (xs : List Int) : (srt xs).Pairwise (· ≤ ·) := by
  have := List.pairwise_mergeSort (le := fun a b : Int => decide (a ≤ b)) (fun a b c h1 h2 => by simp at h1 h2 ⊢; omega) (fun a b => by simp; omega) xs
  exact this.imp fun h => by simpa using h
theorem srt_of {xs ys : List Int} (p : ys.Perm xs) (h : ys.Pairwise (· ≤ ·)) : ys = srt xs := sorted_eq (p.trans (srt_perm xs).symm) h (srt_pw xs)
theorem srt_eq {xs ys : List Int} (p : xs.Perm ys) : srt xs = srt ys := sorted_eq ((srt_perm xs).trans (p.trans (srt_perm ys).symm)) (srt_pw _) (srt_pw _)
theorem srt_len (xs : List Int) : (srt xs).length = xs.length := (srt_perm xs).length_eq
theorem srt_mem {xs : List Int} {x : Int} : x ∈ srt xs ↔ x ∈ xs := (srt_perm xs).mem_iff
theorem srt_filter (xs : List Int) (p : Int → Bool) : (srt xs).filter p = srt (xs.filter p) := srt_of ((srt_perm xs).filter p) ((srt_pw xs).filter p)
theorem srt_rev {xs ys : List Int} (p : ys.Perm xs) (h : ys.Pairwise (· ≥ ·)) : ys = (srt xs).reverse := by
  have e : ys.reverse = srt xs := srt_of ((List.reverse_perm ys).trans p) (List.pairwise_reverse.mpr h)
  rw [← e, List.reverse_reverse]
/-! ### a dict beside an empty one -/
theorem op_dE {X : Cx} (hu : X.A.units < cLine) (op : CmpOp) (t : Bool → Bool) (hop : (op = .Eq ∧ t = id) ∨ (op = .NotEq ∧ t = not)) : OpR X (compareOp op) (fun x y H Q => ∃ (a b : Addr) (kvs : List (Key × V)), x = .ref a ∧ y = .ref b ∧ H a = some (.dK kvs) ∧ H b = some (.dK []) ∧ Q (.bl (t kvs.isEmpty)) H) := by
  intro pins s σ H x y v u Q I rx ry hh
  obtain ⟨a, b, kvs, rfl, rfl, e1, e2, q⟩ := hh
  have rx' : v = Value.ref a := rx
  have ry' : u = Value.ref b := ry
  subst rx' ry'
  obtain ⟨_, n1, v1, r1, d1⟩ := (show ObjOk X.prog X.w H s.heap a (.dK kvs) from I.hok a _ e1)
  obtain ⟨_, n2, v2, r2, d2⟩ := (show ObjOk X.prog X.w H s.heap b (.dK []) from I.hok b _ e2)
  have l2 : v2.length = 0 := by rw [← r2.length]; rfl
  have l1 : v1.length = kvs.length := r1.length.symm
  have hz : v1.length = v2.length → kvs = [] := fun e => List.eq_nil_of_length_eq_zero (by omega)
  have hh : v1.length = v2.length → PySem.W.KeqHits X.A.in1 s v2 v1 true := fun e => by
    have := hz e
    subst this
    exact hits_all r2 r1 (fun p hp => nomatch hp)
  have eb : (v1.length == v2.length && true) = kvs.isEmpty := by
    rw [l1, l2]
    cases kvs <;> simp
  rcases hop with ⟨rfl, rfl⟩ | ⟨rfl, rfl⟩
  · exact PySem.W.keq_eq (r := true) n1 n2 d1 d2 hu hh (fin_bl I q (by rw [eb]; rfl))
  · exact PySem.W.keq_ne (r := true) n1 n2 d1 d2 hu hh (fin_bl I q (by rw [eb]))
theorem op_neE {X : Cx} (hu : X.A.units + 64 < cLine) : OpR X (compareOp .NotEq) (fun x y H Q => ∃ (a b : Addr) (kvs : List (Key × V)), x = .ref a ∧ y = .ref b ∧ H a = some (.dK kvs) ∧ H b = some (.dK []) ∧ Q (.bl (!kvs.isEmpty)) H) := op_dE (by omega) .NotEq not (.inr ⟨rfl, rfl⟩)
/-! ### strictly rising lists -/
theorem ris_eq : ∀ {xs ys : List Int}, (∀ z, z ∈ xs ↔ z ∈ ys) → xs.Pairwise (· < ·) → ys.Pairwise (· < ·) → xs = ys
  | [], [], _, _, _ => rfl
  | [], y :: ys, h, _, _ => nomatch (h y).mpr List.mem_cons_self
  | x :: xs, [], h, _, _ => nomatch (h x).mp List.mem_cons_self
  | x :: xs, y :: ys, h, hx, hy => by
    have h1 := List.pairwise_cons.mp hx
    have h2 := List.pairwise_cons.mp hy
    have e : x = y := by
      rcases List.mem_cons.mp ((h x).mp List.mem_cons_self) with a | a
      · exact a
      rcases List.mem_cons.mp ((h y).mpr List.mem_cons_self) with b | b
      · exact b.symm
      · have := h1.1 y b
        have := h2.1 x a
        omega
    subst e
    refine congrArg (x :: ·) (ris_eq (fun z => ?_) h1.2 h2.2)
    have := h z
    simp only [List.mem_cons] at this
    constructor
    · intro hz
      rcases this.mp (.inr hz) with e | e
      · have := h1.1 z hz; omega
      · exact e
    · intro hz
      rcases this.mpr (.inr hz) with e | e
      · have := h2.1 z hz; omega
      · exact e
/-- put in where it belongs, unless it is there -/
def insU (x : Int) : List Int → List Int
  | [] => [x]
  | y :: ys => if x < y then x :: y :: ys else if x = y then y :: ys else y :: insU x ys
/-- each once, rising -/
def uq (xs : List Int) : List Int := xs.foldr insU []
theorem insU_mem {x z : Int} : ∀ {l : List Int}, z ∈ insU x l ↔ z = x ∨ z ∈ l
  | [] => by simp [insU]
  | y :: ys => by
    unfold insU
    split
    · simp
    · split
      · rename_i h; subst h; simp
      · simp [insU_mem (l := ys)]
        constructor
        · rintro (h | h | h) <;> simp [h]
        · rintro (h | h | h) <;> simp [h]
theorem insU_pw {x : Int} : ∀ {l : List Int}, l.Pairwise (· < ·) → (insU x l).Pairwise (· < ·)
  | [], _ => by simp [insU]
  | y :: ys, h => by
    have h1 := List.pairwise_cons.mp h
    unfold insU
    split
    · rename_i hl
      refine List.pairwise_cons.mpr ⟨fun z hz => ?_, h⟩
      rcases List.mem_cons.mp hz with rfl | hz
      · exact hl
      · have := h1.1 z hz; omega
    · split
      · exact h
      · refine List.pairwise_cons.mpr ⟨fun z hz => ?_, insU_pw h1.2⟩
        rcases insU_mem.mp hz with rfl | hz
        · omega
        · exact h1.1 z hz
theorem uq_mem {xs : List Int} {z : Int} : z ∈ uq xs ↔ z ∈ xs := by
  induction xs with
  | nil => simp [uq]
  | cons x xs ih => simp only [uq, List.foldr_cons] at ih ⊢; rw [insU_mem, ih, List.mem_cons]
theorem uq_pw (xs : List Int) : (uq xs).Pairwise (· < ·) := by
  induction xs with
  | nil => simp [uq]
  | cons x xs ih => exact insU_pw ih
theorem uq_of {xs ys : List Int} (h : ys.Pairwise (· < ·)) (k : ∀ z, z ∈ ys ↔ z ∈ xs) : ys = uq xs := ris_eq (fun z => by rw [k, uq_mem]) h (uq_pw xs)
theorem insU_len (x : Int) : ∀ l : List Int, (insU x l).length ≤ l.length + 1
  | [] => by simp [insU]
  | y :: ys => by
    have := insU_len x ys
    unfold insU
    split
    · simp
    · split <;> simp <;> omega
theorem uq_len (xs : List Int) : (uq xs).length ≤ xs.length := by
  induction xs with
  | nil => simp [uq]
  | cons x xs ih =>
    simp only [uq, List.foldr_cons, List.length_cons] at ih ⊢
    exact Nat.le_trans (insU_len _ _) (by omega)
end Hx

set_option Elab.async false
set_option linter.all false
set_option maxRecDepth 100000
set_option maxHeartbeats 4000000
/-! HsSetR: set(xs), xs a list or a tuple of ints; sorted of it is the rising list of what stands in it -/
namespace Hx
open PySem PySem.Spec PyProof.Rows L2
/-- an empty set as it is laid -/
abbrev sO (w : World) : Obj := { cls := .type "set", dict := none, data := .set #[] 0 (.fresh 0 0 (!w.params.followText "set-order")) }
abbrev h1 (w : World) (h : Heap) : Heap := h.push (sO w)
section
variable {P : Program} {w : World} {A : Around} {E : Value → Shared → Prop} {s : Shared}
theorem set_of_list {l : Addr} {xs : Array Value} (ns : List Int) {Q : Value → Shared → Prop} (nh : A.handled = none) (hl : s.heap.IsList l xs) (hx : IntsAre xs.toList ns) (few : ns.length + 1 < scanBound)
    (k : ∀ (g : Heap) (t c : Nat), SetR w g s.heap.objs.size (fun j => decide (j ∈ ns)) c → c ≤ ns.length → (∀ b o, s.heap.get? b = some o → g.get? b = some o) → Q (.ref s.heap.objs.size) { s with heap := g, toks := t }) :
    wpAny (model P w) A (call (.type "set") [.ref l]) Q E s := by
  have sz : xs.size = ns.length := by have z := IntsAre.length hx; rwa [Array.length_toList] at z
  obtain ⟨_, _, e_mro⟩ := F.called_set.mro
  have e1 := F.called_set.made; have e2 := F.called_set.sub; have e3 := F.called_set.notType; have e4 := F.called_set.canCreate
  have e5 := F.typeCall_set_1 (.ref l)
  apply wpAny_call; apply codeAny_of_tree
  show wpAny _ _ (callAny (.type "set") _) _ _ _
  apply wpAny_pure; refine ⟨Code.quiet_builtin _ (by decide +kernel), ?_⟩; apply codeAny_builtin F.entry_type_call
  rw [Around.under_plain (weight_type_call_type "set" [.ref l] []) rfl]
  repeat (any_goals (first | assumption | wp_step))
  have made := code_set_led1 (P := P) (w := w) (A := A.in1) (E := E) (s := s) (.ref l) (Q₁ := fun z t => z = .ref s.heap.objs.size ∧ t = { s with heap := h1 w s.heap }) ⟨rfl, rfl⟩
  refine codeAny_mono made (fun r t hr => ?_)
  match r, hr with
  | .error _, hr => exact hr
  | .ok .next, hr => exact hr.elim
  | .ok .brk, hr => exact hr.elim
  | .ok .cont, hr => exact hr.elim
  | .ok (.ret z), hr =>
    obtain ⟨rfl, rfl⟩ := hr
    have new : (h1 w s.heap).get? s.heap.objs.size = some (sO w) := Heap.get?_push_size _ rfl
    have ty : Shared.TypeIs { s with heap := h1 w s.heap } (.ref s.heap.objs.size) "set" := ⟨_, new, rfl⟩
    have i1 := F.called_set.init.lookup
    have i2 := F.called_set.init.bind (.ref s.heap.objs.size)
    repeat (any_goals (first | assumption | wp_step))
    apply codeAny_mono (codeAny_call_builtin (R := wants (fun z t => z = .none ∧ ∃ (g : Heap) (n c : Nat), t = { s with heap := g, toks := n } ∧ SetR w g s.heap.objs.size (fun j => decide (j ∈ ns)) c ∧ c ≤ ns.length ∧ ∀ b o, s.heap.get? b = some o → g.get? b = some o) E) F.called_set.init.plain F.entry_set_init (check_set_init_1 ty ?_))
    · intro r t hr
      match r, hr with
      | .error _, hr => exact hr
      | .ok .next, hr => exact hr.elim
      | .ok .brk, hr => exact hr.elim
      | .ok .cont, hr => exact hr.elim
      | .ok (.ret z), hr =>
        obtain ⟨rfl, g, n, c, rfl, q1, q2, q3⟩ := hr
        repeat (any_goals (first | assumption | wp_step))
        exact k _ _ _ q1 q2 q3
    · obtain ⟨ob, e6, e7, m, e8⟩ := hl
      obtain ⟨c0, d0, dat, sl⟩ := ob
      simp only at e7 e8
      subst e7; subst e8
      have old := Heap.get?_push_of_some (sO w) e6
      have s1 := F.sub_list_set; have s2 := F.sub_list_frozenset
      have s3 : (Value.type "list" == Value.type "dict") = false := by decide
      have isl : (h1 w s.heap).IsList l xs := ⟨_, old, rfl, m, rfl⟩
      unfold Builtin.«set.__init__» noKeywords Builtin.Frozenset.updateFrom
      generalize pI : pyIter = PI
      wp_walk
      subst pI
      refine wpAny_pyIter_list isl ?_
      refine wpAny_bind (wpAny_runValue ?_)
      have lt : l < s.heap.objs.size := Heap.lt_size e6
      have z1 : (h1 w s.heap).objs.size = s.heap.objs.size + 1 := Heap.size_push ..
      have n1 : l ≠ (h1 w s.heap).objs.size := by rw [z1]; exact Nat.ne_of_lt (Nat.lt_succ_of_lt lt)
      have n2 : s.heap.objs.size ∉ [(h1 w s.heap).objs.size, l] := by
        intro q
        rcases List.mem_cons.mp q with q | q
        · rw [z1] at q; exact absurd q (Nat.ne_of_lt (Nat.lt_succ_self _))
        · exact absurd (List.mem_singleton.mp q).symm (Nat.ne_of_lt lt)
      have nh3 : A.in1.in1.in1.handled = none := by simp [nh]
      have val : ∀ (i : Nat) (v : Value), xs[i]? = some v → ∃ z t, ns[i]? = some z ∧ v = .int z t := fun i v q => by
        have lti : i < ns.length := sz ▸ (Array.getElem?_eq_some_iff.mp q).1
        obtain ⟨t, e⟩ := PyProof.Rows.IntsAre.int_at hx i v (by rwa [Array.getElem?_toList])
        refine ⟨_, t, List.getElem?_eq_getElem lti, e.trans ?_⟩
        simp [List.getD_eq_getElem?_getD, List.getElem?_eq_getElem lti]
      refine set_update_ints ((Walks.list nh3 _ l n1 xs).toS) s.heap.objs.size n2 ns sz few val (xs.size - 0) 0 _ (by omega) (Nat.zero_le _) ⟨⟨_, Heap.get?_push_size _ rfl, rfl, rfl⟩, isl.push _⟩ ⟨0, Nat.le_refl 0, setR_new_at (Heap.get?_push_of_some _ new)⟩ ?_
      intro t c mv q1 q2
      obtain ⟨g, gn, dr, tk, os⟩ := t
      obtain rfl : gn = s.gens := mv.gens
      obtain rfl : dr = s.drawn := mv.drawn
      obtain rfl : os = s.os := mv.os
      show wpAny _ _ _ _ _ _
      apply wpAny_pure
      show wpAny _ _ (ret Value.none) _ _ _
      rw [sz] at q1
      apply wpAny_pure
      refine ⟨rfl, g, tk, c, rfl, q2, q1, fun b o e => ?_⟩
      have b0 : b < s.heap.objs.size := Heap.lt_size e
      refine mv.heap b o (fun q => ?_) (Heap.get?_push_of_some _ (Heap.get?_push_of_some _ e))
      rcases List.mem_cons.mp q with q | q
      · exact Nat.ne_of_lt b0 q
      · have q := List.mem_singleton.mp q
        rw [z1] at q
        exact Nat.ne_of_lt (Nat.lt_succ_of_lt b0) q
end
/-- set(xs) -/
def rSetL (K : PySem.W.Frag) (w : World) : List V → Hp → VK → Prop := fun vs H Q => ∃ (a : Addr) (ns : List Int), vs = [.ref a] ∧ SqL K H a (ns.map V.int) ∧ ns.length ≤ 1000 ∧ ∀ (p : Addr) (c : Nat), c ≤ ns.length → H p = none → Q (.ref p) (upd H p (SetO w p (fun j => decide (j ∈ ns)) c))
theorem cr_setL {X : Cx} (hc : X.calm = true) : CallR X (.type "set") (rSetL X.K X.w) := by
  intro pins s σ H vs us Q I r h
  obtain ⟨a, ns, rfl, hs, hl, q⟩ := h
  obtain ⟨its, rv, pl, _⟩ := I.list hs
  rw [Vals.ref1 r]
  refine set_of_list ns (I.ok.hd hc) pl.isList (by simpa using ints_of_vals rv) (by unfold scanBound; omega) fun g t c R hcn k => ?_
  refine ⟨.ref _, upd H s.heap.objs.size (SetO X.w s.heap.objs.size (fun j => decide (j ∈ ns)) c), I.laid (t' := t) (fun b u e => k b u e) (Nat.le_refl _) (setO_new R), rfl, q _ c hcn (I.hok.fresh (Nat.le_refl _))⟩
end Hx

set_option Elab.async false
set_option linter.all false
/-! HsSet: sets and dicts; scopes of comprehensions within comprehensions -/
namespace Hx
open PySem PySem.Spec PyProof.Rows L2
def stVal : Stmt → Expr
  | .Assign _ v _ => v
  | _ => .Constant .none 0 ⟨0, 0, 0, 0⟩
def dcScope : Expr → Scope
  | .DictComp _ _ _ sc _ => sc
  | .ListComp _ _ sc _ => sc
  | _ => ⟨.function, [], false, false, []⟩
theorem walk_intsT {K : PySem.W.Frag} {a : Addr} {ns : List Int} : Walk (Itt K a) ns.length (fun H => SqT K H a (ns.map V.int)) (YAt (ns.map V.int)) := by
  have w := walk_tup (K := K) (a := a) (xs := ns.map V.int)
  rw [List.length_map] at w
  exact w
theorem inV_ints (z : Int) (ns : List Int) : inV (V.int z) (ns.map V.int) = decide (z ∈ ns) := by
  induction ns with
  | nil => rfl
  | cons n ns ih =>
    simp only [List.map_cons, inV, List.any_cons] at ih ⊢
    rw [ih]
    by_cases h : z = n
    · subst h; simp [eqV]
    · have h2 : ¬ n = z := fun e => h e.symm
      simp [eqV, h, h2]
theorem inV_non (ns : List Int) : inV V.non (ns.map V.int) = false := by
  induction ns with
  | nil => rfl
  | cons n ns ih =>
    simp only [List.map_cons, inV, List.any_cons] at ih ⊢
    rw [ih]
    rfl
theorem flat_ints (ns : List Int) : (ns.map V.int).all flatV = true := by
  rw [List.all_eq_true]
  intro x hx
  obtain ⟨z, _, rfl⟩ := List.mem_map.mp hx
  rfl
/-- what a block's scope is for the blocks within it: its free names are cells of the def -/
def reScope (s : Scope) : Scope := { s with names := s.names.map fun (n, k) => if k == .free then (n, .cell) else (n, k) }
end Hx

set_option Elab.async false
set_option linter.all false
set_option maxRecDepth 100000
set_option maxHeartbeats 4000000
/-! HsKD: tables of the module: dicts with str keys whose values are flat or tuples of flats; a set out of a tuple of ints; zip of two tuples -/
namespace Hx
open PySem PySem.Spec PyProof.Rows L2 RZ
def tbF : PyData → Value → Bool
  | .int i, .int j _ => decide (i = j)
  | .str x, .str y _ => decide (x = y)
  | .none, .none => true
  | _, _ => false
def tbAll : List PyData → List Value → Bool
  | [], [] => true
  | d :: ds, v :: vs => tbF d v && tbAll ds vs
  | _, _ => false
def tbT (K : PySem.W.Frag) (ds : List PyData) (a : Addr) : Bool := match K.lookup a with
  | some ⟨.type n, _, .seq its _, _⟩ => decide (n = "tuple") && decide (its.size ≤ 1000) && tbAll ds its.toList
  | _ => false
def tbV (K : PySem.W.Frag) : PyData → Value → Bool
  | .tuple ds, .ref a => tbT K ds a
  | d, v => tbF d v
theorem tbF_ok {K : PySem.W.Frag} : ∀ {d : PyData} {u : Value}, tbF d u = true → ∃ v : V, RelV v u ∧ ∀ M : Hp, Dp K M v d
  | .int i, .int j t, h => by
    obtain rfl : i = j := of_decide_eq_true h
    exact ⟨.int i, ⟨t, rfl⟩, fun _ => .int i⟩
  | .str x, .str y t, h => by
    obtain rfl : x = y := of_decide_eq_true h
    exact ⟨.str x, ⟨t, rfl⟩, fun _ => .str x⟩
  | .none, .none, _ => ⟨.non, rfl, fun _ => .non⟩
theorem tbAll_ok {K : PySem.W.Frag} : ∀ {ds : List PyData} {us : List Value}, tbAll ds us = true → ∃ vs : List V, Vals vs us ∧ ∀ M : Hp, DpAll K M vs ds
  | [], [], _ => ⟨[], .nil, fun _ => .nil⟩
  | d :: ds, u :: us, h => by
    have h : (tbF d u && tbAll ds us) = true := h
    rw [Bool.and_eq_true] at h
    obtain ⟨v, r, k⟩ := tbF_ok (K := K) h.1
    obtain ⟨vs, rs, ks⟩ := tbAll_ok h.2
    exact ⟨v :: vs, .cons r rs, fun M => .cons (k M) (ks M)⟩
  | [], _ :: _, h => nomatch h
  | _ :: _, [], h => nomatch h
theorem tbT_ok {K : PySem.W.Frag} {ds : List PyData} {a : Addr} (h : tbT K ds a = true) : ∀ M : Hp, Dp K M (.ref a) (.tuple ds) := by
  unfold tbT at h
  split at h
  · rename_i n d0 its m sl e
    rw [Bool.and_eq_true, Bool.and_eq_true] at h
    obtain rfl := of_decide_eq_true h.1.1
    obtain ⟨vs, rs, ks⟩ := tbAll_ok (K := K) h.2
    exact fun M => .tup (.inr ⟨_, its, m, e, rfl, rfl, size_le (Nat.le_trans (of_decide_eq_true h.1.2) (by decide)), rs⟩) (ks M)
  · exact nomatch h
theorem tbV_ok {K : PySem.W.Frag} {d : PyData} {u : Value} (h : tbV K d u = true) : ∃ v : V, RelV v u ∧ ∀ M : Hp, Dp K M v d := by
  unfold tbV at h
  split at h
  · exact ⟨.ref _, rfl, tbT_ok h⟩
  · exact tbF_ok h
def tbOk (K : PySem.W.Frag) (D : Addr) (t : List (Str × PyData)) : Bool := t.all fun p => match PySem.W.nsIn K D p.1 with
  | some (some u) => tbV K p.2 u
  | _ => false
def tbNo (K : PySem.W.Frag) (D : Addr) (xs : List Str) : Bool := xs.all fun x => match PySem.W.nsIn K D x with
  | some none => true
  | _ => false
def tbLit : List DictEntry → List Str → Bool
  | [], [] => true
  | e :: es, x :: xs => e.key.isStr x && tbLit es xs
  | _, _ => false
/-- a table of the module at D: what it holds, what it does not -/
structure KTab (K : PySem.W.Frag) (w : World) (D : Addr) (t : List (Str × PyData)) (no : List Str) : Prop where
  kd : ∃ es n, KDict K w D es n
  ok : tbOk K D t = true
  no : tbNo K D no = true
theorem KTab.find {K : PySem.W.Frag} {w : World} {D : Addr} {t : List (Str × PyData)} {no : List Str} (T : KTab K w D t no) {z : Str} {d : PyData} (h : (z, d) ∈ t) :
    ∃ u v, PySem.W.nsIn K D z = some (some u) ∧ RelV v u ∧ ∀ M : Hp, Dp K M v d := by
  have h1 := List.all_eq_true.mp T.ok _ h
  split at h1
  · rename_i u e
    obtain ⟨v, r, k⟩ := tbV_ok h1
    exact ⟨u, v, e, r, k⟩
  · exact nomatch h1
theorem KTab.miss {K : PySem.W.Frag} {w : World} {D : Addr} {t : List (Str × PyData)} {no : List Str} (T : KTab K w D t no) {z : Str} (h : z ∈ no) : PySem.W.nsIn K D z = some none := by
  have h1 := List.all_eq_true.mp T.no _ h
  split at h1
  · rename_i e
    exact e
  · exact nomatch h1
section
variable {X : Cx} {D : Addr} {t : List (Str × PyData)} {no : List Str}
def rIxT0 (K : PySem.W.Frag) (D : Addr) (t : List (Str × PyData)) : R2 := fun x y H Q => ∃ (z : Str) (d : PyData), x = .ref D ∧ y = .str z ∧ (z, d) ∈ t ∧ ∀ v, (∀ M : Hp, Dp K M v d) → Q v H
theorem ix_tab (T : KTab X.K X.w D t no) : IxR X (rIxT0 X.K D t) := by
  intro value slice pins s σ H x y v u Q I rx ry h hs
  obtain ⟨z, d, rfl, rfl, m, q⟩ := h
  obtain ⟨u0, v0, e, r, k⟩ := T.find m
  obtain ⟨es, n, kd⟩ := T.kd
  exact ix_kdict value slice pins s σ H _ _ v u Q I rx ry ⟨_, _, v0, rfl, rfl, ⟨es, n, u0, kd.at_, kd.lit, e, r⟩, q v0 k⟩ hs
def rInT0 (D : Addr) (t : List (Str × PyData)) (no : List Str) : R2 := fun x y H Q => ∃ z : Str, x = .str z ∧ y = .ref D ∧ (((∃ d, (z, d) ∈ t) ∧ Q (.bl true) H) ∨ (z ∈ no ∧ Q (.bl false) H))
theorem op_in_tab (T : KTab X.K X.w D t no) : OpR X (compareOp .In) (rInT0 D t no) := by
  intro pins s σ H x y v u Q I rx ry h
  obtain ⟨z, rfl, rfl, h⟩ := h
  obtain ⟨es, n, kd⟩ := T.kd
  rcases h with ⟨⟨d, m⟩, q⟩ | ⟨m, q⟩
  · obtain ⟨u0, v0, e, r, k⟩ := T.find m
    exact op_in_kd kd pins s σ H _ _ v u Q I rx ry ⟨z, _, rfl, rfl, e, q⟩
  · exact op_in_kd kd pins s σ H _ _ v u Q I rx ry ⟨z, _, rfl, rfl, T.miss m, q⟩
/-- d.get(k, x) -/
def tTabGet (K : PySem.W.Frag) (D : Addr) (t : List (Str × PyData)) (no : List Str) (td ty tx : TE) : TE := fun σ H Q => td σ H fun x H1 => x = .ref D ∧ ty σ H1 fun y H2 => tx σ H2 fun z H3 => ∃ s : Str, y = .str s ∧
  ((∃ d, (s, d) ∈ t ∧ ∀ v, (∀ M : Hp, Dp K M v d) → Q v H3) ∨ (s ∈ no ∧ Q z H3))
theorem pe_tabGet {o e f : Expr} {apos cpos : Pos} {td ty tx : TE} (T : KTab X.K X.w D t no) (ho : PE X o td) (he : PE X e ty) (hf : PE X f tx) (m : M2 X o "get" apos e f cpos) : PE X (.Call (.Attribute o "get" apos) [e, f] [] cpos) (tTabGet X.K D t no td ty tx) := by
  obtain ⟨es, n, kd⟩ := T.kd
  refine ⟨fun pins s σ H Q I h => ?_⟩
  refine wpAny_Call_method m.base m.few m.line PySem.F.plainAttrs_dict PySem.F.slot_dict_get PySem.F.type_dict_get (thn (ho.run pins s σ H _ I h) fun u s1 ⟨x, H1, I1, rx, ex, q1⟩ => ?_)
  subst ex
  obtain rfl : u = Value.ref D := rx
  have hm1 := PySem.W.mapOf_K (prog := X.prog) (w := X.w) I1.kIn kd.at_ kd.lit
  have k1 := I1.kIn D _ kd.at_
  refine ⟨hm1.typeIs, ?_, ?_⟩
  · intro b q
    cases q
    exact ⟨_, k1, rfl⟩
  rw [m.trees]
  refine Calls.callWith_builtin rfl (Calls.evalArgs_plain (Calls.spliced_cons (thn (he.run pins s1 σ H1 _ I1 q1) fun kv s2 ⟨y, H2, I2, ry, q2⟩ =>
    Calls.spliced_cons (thn (hf.run pins s2 σ H2 _ I2 q2) fun fv s3 ⟨z, H3, I3, rz, s, ey, q3⟩ => Calls.spliced_nil ?_))))
  subst ey
  obtain ⟨t0, rfl⟩ := ry
  have hm3 := PySem.W.mapOf_K (prog := X.prog) (w := X.w) I3.kIn kd.at_ kd.lit
  rcases q3 with ⟨d, md, q⟩ | ⟨mn, q⟩
  · obtain ⟨u0, v0, e0, r0, k0⟩ := T.find md
    refine call_meetsIn PySem.F.slot_dict_get hm3.typeIs PySem.F.entry_dict_get (PySem.F.args_dict_get_3 _ _ _) (meets_dict_get_default (strKind X.prog X.w) (k := s) D (strKind_is X.prog X.w s t0) kd.low fv) ⟨_, hm3, v0, H3, I3.tok _, ?_, q v0 k0⟩
    rw [PySem.W.find_K kd.at_ e0]
    exact r0
  · refine call_meetsIn PySem.F.slot_dict_get hm3.typeIs PySem.F.entry_dict_get (PySem.F.args_dict_get_3 _ _ _) (meets_dict_get_default (strKind X.prog X.w) (k := s) D (strKind_is X.prog X.w s t0) kd.low fv) ⟨_, hm3, z, H3, I3.tok _, ?_, q⟩
    rw [PySem.W.find_K kd.at_ (T.miss mn)]
    exact rz
/-- set(t), a tuple of ints -/
def rSetTI (K : PySem.W.Frag) (w : World) : List V → Hp → VK → Prop := fun vs H Q => ∃ (a : Addr) (ns : List Int), vs = [.ref a] ∧ SqT K H a (ns.map V.int) ∧ ns.length ≤ 1000 ∧ ∀ (p : Addr) (c : Nat), c ≤ ns.length → H p = none → Q (.ref p) (upd H p (SetO w p (fun j => decide (j ∈ ns)) c))
theorem cr_setTI (hc : X.calm = true) : CallR X (.type "set") (rSetTI X.K X.w) := by
  intro pins s σ H vs us Q I r h
  obtain ⟨a, ns, rfl, hs, hl, q⟩ := h
  obtain ⟨its, rv, pl, _⟩ := I.tuple hs
  rw [Vals.ref1 r]
  refine call_set_tupI ns (I.ok.hd hc) pl (by simpa using ints_of_vals rv) (by unfold scanBound; omega) fun g t c R hcn k => ?_
  refine ⟨.ref _, upd H s.heap.objs.size (SetO X.w s.heap.objs.size (fun j => decide (j ∈ ns)) c), I.laid (t' := t) (fun b u e => k b u e) (Nat.le_refl _) (setO_new R), rfl, q _ c hcn (I.hok.fresh (Nat.le_refl _))⟩
end
theorem tyx_tup {K : PySem.W.Frag} {H : Hp} {a : Addr} {xs : List V} (h : SqT K H a xs) : TyX K H (.ref a) (.type "tuple") := by
  rcases h with (h | ⟨o, h⟩) | ⟨o, its, n, l, c, _⟩
  · exact .base (.tup h)
  · exact .fTuple h
  · exact .kTuple l c
theorem walk_zipT {K : PySem.W.Frag} {a b : Addr} {xs ys : List V} {n : Nat} (hn : n = min xs.length ys.length) : Walk (ItzT K a b) n (fun H => SqT K H a xs ∧ SqT K H b ys) (YPair (fun i => xs[i]?) (fun i => ys[i]?)) := by
  subst hn
  refine ⟨fun j _ hj g => ?_, fun _ g => ⟨xs, ys, g.1, g.2, by omega⟩, fun j M v M' _ g y => ?_⟩
  · have l1 : j < xs.length := by omega
    have l2 : j < ys.length := by omega
    exact ⟨xs, ys, xs[j], ys[j], g.1, g.2, by simp [l1], by simp [l2]⟩
  · obtain ⟨T, x, z, m1, m2, m3, m4, m5⟩ := y
    exact ⟨T, x, z, m1, m2, m3, m4 xs g.1, m5 ys g.2⟩
end Hx

set_option Elab.async false
set_option linter.all false
set_option maxRecDepth 100000
set_option maxHeartbeats 4000000
/-! HsIns: the names of instructions, their forms and parts, as data -/
namespace Hx
open PySem PySem.Spec PyProof.Rows L2
def nmL : List Str := ["add", "sub", "mul", "div", "and", "or", "xor", "shl", "shr", "low", "eq", "addi", "ld", "st", "jr", "lim", "lhi", "bz", "bnz", "jal", "sys", "rdc", "wrc", "ret", "halt", "nop"]
def nm (j : Nat) : Str := nmL.getD j ""
def fi (j : Nat) : Nat := [0, 0, 0, 0, 0, 0, 0, 0, 0, 0, 0, 1, 1, 1, 1, 2, 2, 3, 3, 3, 4, 5, 5, 6, 6, 6].getD j 0
def fmL : List Str := ["three", "near", "byte", "far", "call", "control", "bare"]
def fmN (i : Nat) : Str := fmL.getD i ""
def ptN (i : Nat) : List Str := ([["a", "b", "c"], ["a", "b", "near"], ["a", "byte"], ["a", "far"], ["byte"], ["a", "control"], []] : List (List Str)).getD i []
def paL : List (Str × (Int × Int × Int × Int)) := [("a", 8, 3, 0, 7), ("b", 5, 3, 0, 7), ("c", 0, 5, 0, 7), ("near", 0, 5, -16, 15), ("byte", 0, 8, 0, 255), ("far", 0, 8, -128, 127), ("control", 0, 8, 0, 7)]
def pa (p : Str) : Int × Int × Int × Int := (paL.lookup p).getD (0, 0, 0, 0)
def opT : List (Str × PyData) := (List.range 26).map fun j => (nm j, .tuple [.int ((j : Int) + 1), .str (fmN (fi j))])
def foT : List (Str × PyData) := (List.range 7).map fun i => (fmN i, .tuple ((ptN i).map PyData.str))
def paT : List (Str × PyData) := paL.map fun z => (z.1, .tuple [.int z.2.1, .int z.2.2.1, .int z.2.2.2.1, .int z.2.2.2.2])
def reL : List (Str × List Int) := [("addi", [2]), ("ld", [2]), ("jr", [2]), ("st", [1, 2]), ("lhi", [1]), ("bz", [1]), ("bnz", [1]), ("wrc", [1])]
def reT : List (Str × PyData) := reL.map fun z => (z.1, .tuple (z.2.map PyData.int))
def reNo : List Str := ["lim", "jal", "sys", "rdc", "ret", "halt", "nop"]
def soL : List (Str × Str) := [("mul", "times"), ("div", "over"), ("ld", "load"), ("st", "store"), ("bz", "branch"), ("bnz", "branch"), ("jr", "jump"), ("jal", "jump"), ("sys", "lone"), ("rdc", "lone"), ("wrc", "lone"), ("ret", "lone"), ("halt", "lone")]
def soT : List (Str × PyData) := soL.map fun z => (z.1, .str z.2)
def soNo : List Str := ["add", "sub", "and", "or", "xor", "shl", "shr", "low", "eq", "addi", "lim", "lhi", "nop"]
def wrL : List V := [.str "addi", .str "ld", .str "jr", .str "lim", .str "lhi", .str "jal", .str "rdc"]
/-- where the registers stand that an instruction without the form three reads -/
def rdP (j : Nat) : List Int := if j = 11 ∨ j = 12 ∨ j = 14 then [2] else if j = 13 then [1, 2] else if j = 16 ∨ j = 17 ∨ j = 18 ∨ j = 22 then [1] else []
def soN (j : Nat) : Str := (["sum", "sum", "times", "over", "sum", "sum", "sum", "sum", "sum", "sum", "sum", "sum", "load", "store", "jump", "sum", "sum", "branch", "branch", "jump", "lone", "lone", "lone", "lone", "lone", "sum"] : List Str).getD j ""
/-- whether one is written -/
def wrB (j : Nat) : Bool := decide (j ∈ [0, 1, 2, 3, 4, 5, 6, 7, 8, 9, 10, 11, 12, 14, 15, 16, 19, 21])
theorem opT_mem {j : Nat} (h : j < 26) : (nm j, PyData.tuple [.int ((j : Int) + 1), .str (fmN (fi j))]) ∈ opT := List.mem_map.mpr ⟨j, List.mem_range.mpr h, rfl⟩
theorem foT_mem {i : Nat} (h : i < 7) : (fmN i, PyData.tuple ((ptN i).map PyData.str)) ∈ foT := List.mem_map.mpr ⟨i, List.mem_range.mpr h, rfl⟩
theorem fi_lt {j : Nat} (h : j < 26) : fi j < 7 := by
  have z : ∀ j < 26, fi j < 7 := by decide +kernel
  exact z j h
theorem paL_mem {i : Nat} (h : i < 7) {p : Str} (m : p ∈ ptN i) : (p, pa p) ∈ paL := by
  have z : ∀ i < 7, (ptN i).all (fun p => decide ((p, pa p) ∈ paL)) = true := by decide +kernel
  exact of_decide_eq_true (List.all_eq_true.mp (z i h) p m)
theorem paT_mem {i : Nat} (h : i < 7) {p : Str} (m : p ∈ ptN i) : (p, PyData.tuple [.int (pa p).1, .int (pa p).2.1, .int (pa p).2.2.1, .int (pa p).2.2.2]) ∈ paT := List.mem_map.mpr ⟨_, paL_mem h m, rfl⟩
theorem re_of {j : Nat} (h : j < 26) (hf : fi j ≠ 0) : (nm j, rdP j) ∈ reL ∨ (nm j ∈ reNo ∧ rdP j = []) := by
  have z : ∀ j < 26, fi j ≠ 0 → ((nm j, rdP j) ∈ reL ∨ (nm j ∈ reNo ∧ rdP j = [])) := by decide +kernel
  exact z j h hf
theorem reT_mem {j : Nat} (h : (nm j, rdP j) ∈ reL) : (nm j, PyData.tuple ((rdP j).map PyData.int)) ∈ reT := List.mem_map.mpr ⟨_, h, rfl⟩
theorem so_of {j : Nat} (h : j < 26) : (nm j, soN j) ∈ soL ∨ (nm j ∈ soNo ∧ soN j = "sum") := by
  have z : ∀ j < 26, ((nm j, soN j) ∈ soL ∨ (nm j ∈ soNo ∧ soN j = "sum")) := by decide +kernel
  exact z j h
theorem soT_mem {j : Nat} (h : (nm j, soN j) ∈ soL) : (nm j, PyData.str (soN j)) ∈ soT := List.mem_map.mpr ⟨_, h, rfl⟩
theorem wr_of {j : Nat} (h : j < 26) : (decide (fi j = 0) || inV (.str (nm j)) wrL) = wrB j := by
  have z : ∀ j < 26, (decide (fi j = 0) || inV (.str (nm j)) wrL) = wrB j := by decide +kernel
  exact z j h
theorem three_iff {i : Nat} (h : i < 7) : fmN i = "three" ↔ i = 0 := by
  have z : ∀ i < 7, (fmN i = "three" ↔ i = 0) := by decide +kernel
  exact z i h
theorem nm_inj {i j : Nat} (hi : i < 26) (hj : j < 26) (e : nm i = nm j) : i = j := by
  have z : ∀ i < 26, ∀ j < 26, nm i = nm j → i = j := by decide +kernel
  exact z i hi j hj e
/-- an instruction: its name's place, its numbers -/
structure OkI (j : Nat) (ns : List Int) : Prop where
  hj : j < 26
  len : ns.length = (ptN (fi j)).length
  fit : ∀ (k : Nat) (p : Str) (n : Int), (ptN (fi j))[k]? = some p → ns[k]? = some n → (pa p).2.2.1 ≤ n ∧ n ≤ (pa p).2.2.2
abbrev insV (j : Nat) (ns : List Int) : List V := .str (nm j) :: ns.map V.int
end Hx

set_option Elab.async false
set_option linter.all false
set_option maxRecDepth 100000
set_option maxHeartbeats 4000000
/-! HsTupMul: tuple * int, for 0, 1 and more -/
namespace Hx
open PySem PySem.Spec PyProof.Rows L2
theorem tmul_one (l : Addr) (its : Array Value) (n : Nat) (dd : Option Addr) (sl : Array (Option Value)) (u : Tok) :
    Meets (Builtin.«tuple.__mul__» ⟨[.ref l, .int 1 u], []⟩) (fun _ R s => s.heap.get? l = some { cls := .type "tuple", dict := dd, data := .seq its n, slots := sl } ∧ R (.ok (.ret (Value.ref l))) s) :=
  .of_wp fun pg wd Ar Rr st hh => by
    obtain ⟨hp, gn, d, tk, os⟩ := st
    obtain ⟨hl, hh⟩ := hh
    have f1 := AutoSeq1.idx_int
    have g0 : (decide ((1 : Int) < -(2 ^ 63)) || decide ((1 : Int) ≥ 2 ^ 63)) = false := by decide
    have g1 : (its.isEmpty || (1 : Int) == 1) = true := by simp
    wp_walk using wpAny_loadPart' hl
    repeat (first
      | (refine wpAny_ite_false (decide_eq_false (by rw [g0]; exact Bool.false_ne_true)) ?_; wp_walk using wpAny_loadPart' hl)
      | (refine wpAny_ite_true (decide_eq_true (by rw [g1])) ?_; wp_walk using wpAny_loadPart' hl))
    exact ⟨_, rfl, hh⟩
theorem tmul_none (l : Addr) (its : Array Value) (n : Nat) (dd : Option Addr) (sl : Array (Option Value)) (u : Tok) (ne : its.isEmpty = false) :
    Meets (Builtin.«tuple.__mul__» ⟨[.ref l, .int 0 u], []⟩) (fun _ R s => s.heap.get? l = some { cls := .type "tuple", dict := dd, data := .seq its n, slots := sl } ∧
      R (.ok (.ret (Value.ref s.heap.objs.size))) { s with heap := s.heap.push { cls := Value.type "tuple", data := Data.seq #[] }, toks := s.toks }) :=
  .of_wp fun pg wd Ar Rr st hh => by
    obtain ⟨hp, gn, d, tk, os⟩ := st
    obtain ⟨hl, hh⟩ := hh
    have f1 := AutoSeq1.idx_int
    have g0 : (decide ((0 : Int) < -(2 ^ 63)) || decide ((0 : Int) ≥ 2 ^ 63)) = false := by decide
    have g1 : (its.isEmpty || (0 : Int) == 1) = false := by rw [ne]; rfl
    have g2 : (decide ((0 : Int) ≤ 0) || its.isEmpty) = true := by simp
    wp_walk using wpAny_loadPart' hl
    repeat (first
      | (refine wpAny_ite_false (decide_eq_false (by rw [g0]; exact Bool.false_ne_true)) ?_; wp_walk using wpAny_loadPart' hl)
      | (refine wpAny_ite_false (decide_eq_false (by rw [g1]; exact Bool.false_ne_true)) ?_; wp_walk using wpAny_loadPart' hl)
      | (refine wpAny_ite_true (decide_eq_true (by rw [g2])) ?_; wp_walk using wpAny_loadPart' hl))
    exact ⟨_, rfl, hh⟩
def rRepTA (K : PySem.W.Frag) : R2 := fun x y H Q => ∃ (l : Addr) (k : Int) (xs : List V), x = .ref l ∧ y = .int k ∧ SqT K H l xs ∧ xs ≠ [] ∧ 0 ≤ k ∧ k ≤ 1000 ∧ xs.length ≤ 1000 ∧ (k = 1 → Q (.ref l) H) ∧ (k ≠ 1 → ∀ p, H p = none → Q (.ref p) (upd H p (.tup (List.replicate k.toNat xs).flatten)))
/-- t * k, from none on -/
theorem op_repTA {X : Cx} : OpR X (binaryOp .Mult) (rRepTA X.K) := by
  intro pins s σ H x y v u Q I rx ry h
  obtain ⟨l, k, xs, rfl, rfl, hT, hne, h0, h1, hz, q1, q2⟩ := h
  by_cases c : 2 ≤ k
  · exact op_repT pins s σ H _ _ v u Q I rx ry ⟨l, k, xs, rfl, rfl, hT, hne, c, h1, hz, q2 (by omega)⟩
  · cases rx
    obtain ⟨t, rfl⟩ := ry
    obtain ⟨its, r, ⟨⟨cl, dd, dat, sl⟩, ho, hc, n, hd⟩, hs⟩ := I.tuple hT
    simp only at hc hd
    subst hc hd
    have hi : its.toArray.isEmpty = false := by
      cases r with
      | nil => exact absurd rfl hne
      | cons a b => rfl
    have c01 : k = 0 ∨ k = 1 := by omega
    rcases c01 with rfl | rfl
    · refine wpAny_binaryOp_repeat_ref (T := "tuple") (U := "int") (by decide) ⟨_, ho, rfl⟩ (fun z => typeIs_int z 0 t) noFill_tuple_mul F.fills_int_mul F.slot_int_rmul repeat_tuple F.slot_int_index.lookup
        (call_meets F.slot_int_rmul (typeIs_int s 0 t) F.entry_int_rmul (F.args_int_rmul_2 _ _) (int_rmul_tuple 0 t l its.toArray n dd sl)
          ⟨ho, rfl, ⟨_, ho, rfl⟩, call_meets F.slot_tuple_mul ⟨_, ho, rfl⟩ F.entry_tuple_mul (F.args_tuple_mul_2 _ _) (tmul_none l its.toArray n dd sl t hi) ⟨ho, ?_⟩⟩)
      refine ⟨.ref s.heap.objs.size, _, I.laid (t' := s.toks) (o := .tup []) (fun b ob z => Heap.get?_push_of_some _ z) (Nat.le_refl _) ?_, rfl, q2 (by decide) _ (I.hok.fresh (Nat.le_refl _))⟩
      exact ⟨by show 0 ≤ sizeLine; exact Nat.zero_le _, [], .nil, IsTup.new _ _⟩
    · refine wpAny_binaryOp_repeat_ref (T := "tuple") (U := "int") (by decide) ⟨_, ho, rfl⟩ (fun z => typeIs_int z 1 t) noFill_tuple_mul F.fills_int_mul F.slot_int_rmul repeat_tuple F.slot_int_index.lookup
        (call_meets F.slot_int_rmul (typeIs_int s 1 t) F.entry_int_rmul (F.args_int_rmul_2 _ _) (int_rmul_tuple 1 t l its.toArray n dd sl)
          ⟨ho, rfl, ⟨_, ho, rfl⟩, call_meets F.slot_tuple_mul ⟨_, ho, rfl⟩ F.entry_tuple_mul (F.args_tuple_mul_2 _ _) (tmul_one l its.toArray n dd sl t) ⟨ho, ?_⟩⟩)
      exact ⟨.ref l, H, I, rfl, q1 rfl⟩
end Hx

set_option Elab.async false
set_option linter.all false
set_option maxRecDepth 100000
set_option maxHeartbeats 4000000
/-! enumerate(xs, start=k) over a list or a tuple; lists sifted out of a walk, their items data -/
namespace Hx
open PySem PySem.Spec PyProof.Rows L2
theorem callWith_typeK {M : Model} {A : Around} {E : Value → Shared → Prop} {s : Shared} {env : Env} {pos : Pos} {T : String} {e : Expr} {rest : List Expr} {kws : List Keyword} {Q : Value → Shared → Prop}
    (h : wpAny M A (spliced (backTo pos (starEach (e :: rest) env))) (fun vs s₁ => wpAny M A (evalAll ((backToKw pos (keywordEach kws env)).map (·.2)))
      (fun kvs s₂ => wpAny M A (call (.type T) vs (((backToKw pos (keywordEach kws env)).filterMap (·.1)).zip kvs)) Q E s₂) E s₁) E s)
    (he : backTo pos (starEach (e :: rest) env) = (false, eval e env) :: backTo pos (starEach rest env) := by rfl)
    (hplain : (backTo pos (starEach (e :: rest) env)).any (·.1) = false := by rfl)
    (hall : (backToKw pos (keywordEach kws env)).all (·.1.isSome) = true := by rfl)
    (hkw : (backToKw pos (keywordEach kws env)).any (·.1.isNone) = false := by rfl) :
    wpAny M A (callWith pos (.type T) [] (backTo pos (starEach (e :: rest) env)) (backToKw pos (keywordEach kws env))) Q E s := by
  have h2 : wpAny M A (evalArgs (.type T) true (backTo pos (starEach (e :: rest) env)) (backToKw pos (keywordEach kws env))) (fun a s₁ => wpAny M A (call (.type T) ([] ++ a.pos) a.kw) Q E s₁) E s := by
    rw [he] at h ⊢
    exact evalArgs_kwB hall h
  unfold callWith
  refine wpAny_bind (wpAny_holding (wpAny_mono h2 (fun a s₁ h₁ => wpAny_bind (wpAny_standAt ?_)) fun _ _ x => x))
  simp only [hplain, hkw, Bool.or_false]
  refine wpAny_bind (wpAny_pure ?_)
  exact wpAny_bind (wpAny_mono h₁ (fun r s₂ hr => wpAny_bind (wpAny_holding (wpAny_point (wpAny_pure hr)))) fun _ _ x => x)
/-- the list, the tuple, at a, each item in a new pair, counted from k -/
def IteS (K : PySem.W.Frag) (a : Addr) (k : Int) : It :=
  ⟨fun i H => ∃ (xs : List V) (x : V), SqL K H a xs ∧ xs[i]? = some x, fun i H v H' => ∃ T x, v = .ref T ∧ H T = none ∧ H' = upd H T (.tup [.int (k + (i : Nat)), x]) ∧ ∀ xs, SqL K H a xs → xs[i]? = some x, fun i H => ∃ xs : List V, SqL K H a xs ∧ xs.length = i⟩
def IteT (K : PySem.W.Frag) (a : Addr) (k : Int) : It :=
  ⟨fun i H => ∃ (xs : List V) (x : V), SqT K H a xs ∧ xs[i]? = some x, fun i H v H' => ∃ T x, v = .ref T ∧ H T = none ∧ H' = upd H T (.tup [.int (k + (i : Nat)), x]) ∧ ∀ xs, SqT K H a xs → xs[i]? = some x, fun i H => ∃ xs : List V, SqT K H a xs ∧ xs.length = i⟩
theorem walk_enumS {K : PySem.W.Frag} {a : Addr} {k : Int} {xs : List V} : Walk (IteS K a k) xs.length (fun H => SqL K H a xs) (YPair (fun i => some (.int (k + (i : Nat)))) (fun i => xs[i]?)) := by
  refine ⟨fun i _ hi q => ⟨xs, xs[i], q, by simp [hi]⟩, fun _ q => ⟨xs, q, rfl⟩, fun i H v H' _ q y => ?_⟩
  obtain ⟨T, x, h1, h2, h3, h4⟩ := y
  exact ⟨T, _, x, h1, h2, h3, rfl, h4 xs q⟩
theorem walk_enumT {K : PySem.W.Frag} {a : Addr} {k : Int} {xs : List V} : Walk (IteT K a k) xs.length (fun H => SqT K H a xs) (YPair (fun i => some (.int (k + (i : Nat)))) (fun i => xs[i]?)) := by
  refine ⟨fun i _ hi q => ⟨xs, xs[i], q, by simp [hi]⟩, fun _ q => ⟨xs, q, rfl⟩, fun i H v H' _ q y => ?_⟩
  obtain ⟨T, x, h1, h2, h3, h4⟩ := y
  exact ⟨T, _, x, h1, h2, h3, rfl, h4 xs q⟩
section
variable {P : Program} {w : World} {K : PySem.W.Frag} {elts : List Expr} {kk : Nat} {tpos : Pos}
theorem turn_enumS (a e it : Addr) (k : Int) :
    Turn P w K (.Tuple elts kk tpos) (IteS K a k) [e, it] e (fun i h => (∃ old, IsEnum h e it (k + ((i : Nat) : Int)) old) ∧ h.IsListIter it a i ∧ e ≠ it ∧ a ≠ it ∧ a ≠ e) where
  mem := by simp
  obj := fun i h st b hb => by
    obtain ⟨⟨old, he⟩, ⟨o, ho, hc, hd⟩, _⟩ := st
    have e' : b = e ∨ b = it := by simpa using hb
    rcases e' with z | z
    · rw [z]; exact ⟨_, he, fun v q => nomatch q⟩
    · rw [z]; exact ⟨o, ho, fun v q => by rw [hd] at q; cases q⟩
  keep := fun i h h' st k => let ⟨⟨old, he⟩, hi, hne⟩ := st; ⟨⟨old, k e (by simp) _ he⟩, hi.at fun o q => k it (by simp) o q, hne⟩
  item := by
    intro X hP hw hK hc i pins s σ H E I hf st hg
    subst hP hw hK
    obtain ⟨⟨old, he⟩, hit, hne, hai, hae⟩ := st
    obtain ⟨xs, x, hq, hx⟩ := hg
    obtain ⟨its, rv, p, hz⟩ := I.list hq
    obtain ⟨u, hu, ru⟩ := rv.get hx
    have hel : e < s.heap.objs.size := Heap.lt_size he
    have hil : it < s.heap.objs.size := by obtain ⟨_, q, _⟩ := hit; exact Heap.lt_size q
    have hlt : i < its.toArray.size := by simpa using (List.getElem?_eq_some_iff.mp hu).1
    refine wpAny_pyNext_enum_itemC (Draws.list (show X.A.in1.handled = none from I.ok.hd hc) it a hai its.toArray) he ⟨hit, p.isList⟩ hlt hne (by simp [hne, Ne.symm hae]) fun x' h' tk hP' ho hit' hT hsz hk => ?_
    obtain rfl : x' = u := by
      have h1 : its.toArray[i]? = some x' := hP'
      have h2 : its.toArray[i]? = some u := by simpa using hu
      rw [h1] at h2
      exact Option.some.inj h2
    refine ⟨_, rfl, wpAny_letOwnedTupleGo_enum (s := { s with heap := h', toks := tk + 1 }) ho fun h'' he' sb => ?_⟩
    have hT2 : h''.get? s.heap.objs.size = some { cls := .type "tuple", data := .seq #[.int (k + ((i : Nat) : Int)) tk, x'] } := (sb.2 _ (Nat.ne_of_gt hel)).trans hT
    have new : ObjOk X.prog X.w (upd H s.heap.objs.size (.tup [.int (k + (i : Nat)), x])) h'' s.heap.objs.size (.tup [.int (k + (i : Nat)), x]) :=
      ⟨by show 2 ≤ sizeLine; decide, [.int (k + ((i : Nat) : Int)) tk, x'], .cons ⟨_, rfl⟩ (.cons ru .nil), ⟨_, hT2, rfl, _, rfl⟩⟩
    have I1 : Inv X pins σ (upd H s.heap.objs.size (.tup [.int (k + (i : Nat)), x])) { s with heap := h'', toks := tk + 1 } :=
      I.turnedNew (ch := [e, it]) (fun b ob hb q => (sb.2 b (fun z => hb (by simp [z]))).trans (hk b ob (fun z => hb (by simp [z])) (fun z => hb (by simp [z])) q)) hf (Nat.le_refl _) new
    refine ⟨.ref s.heap.objs.size, _, I1, rfl, ⟨_, x, rfl, I.hok.fresh (Nat.le_refl _), rfl, fun ys hy => by rw [I.list_inj hy hq]; exact hx⟩, ⟨⟨x', ?_⟩, hit'.1.at fun o q => (sb.2 it (Ne.symm hne)).trans q, hne, hai, hae⟩, fun b hb => ?_⟩
    · have e1 : k + ((i + 1 : Nat) : Int) = k + (i : Int) + 1 := by omega
      rw [e1]; exact he'
    · have hb' : b < s.heap.objs.size := by
        have e' : b = e ∨ b = it := by simpa using hb
        rcases e' with z | z
        · rw [z]; exact hel
        · rw [z]; exact hil
      rw [upd_ne (Nat.ne_of_lt hb')]
      exact (hf b hb).1
  done := by
    intro X hP hw hK hc i pins s σ H E I hf st hg
    subst hP hw hK
    obtain ⟨⟨old, he⟩, hit, hne, hai, hae⟩ := st
    obtain ⟨xs, hq, hx⟩ := hg
    obtain ⟨its, rv, p, hz⟩ := I.list hq
    obtain ⟨f0, f1, f2, f3, f4, f5⟩ := hf it (by simp)
    have hl := rv.length
    have hn : i = its.toArray.size := by simp; omega
    subst hn
    exact wpAny_pyNext_enum_endD (Draws.list (show X.A.in1.handled = none from I.ok.hd hc) it a hai its.toArray) he ⟨hit, p.isList⟩ fun h' eb => ⟨rfl, I.turned (t' := s.toks) (fun b o hb q => eb b o hb q) f0 f1 f3 f4 f5⟩
  self := fun A i s Q E st h => let ⟨⟨_, he⟩, _⟩ := st; wpAny_pyIter_enum he h
theorem turn_enumT (a e it : Addr) (k : Int) :
    Turn P w K (.Tuple elts kk tpos) (IteT K a k) [e, it] e (fun i h => (∃ old, IsEnum h e it (k + ((i : Nat) : Int)) old) ∧ h.IsTupleIter it a i ∧ e ≠ it ∧ a ≠ it ∧ a ≠ e) where
  mem := by simp
  obj := fun i h st b hb => by
    obtain ⟨⟨old, he⟩, ⟨o, ho, hc, hd⟩, _⟩ := st
    have e' : b = e ∨ b = it := by simpa using hb
    rcases e' with z | z
    · rw [z]; exact ⟨_, he, fun v q => nomatch q⟩
    · rw [z]; exact ⟨o, ho, fun v q => by rw [hd] at q; cases q⟩
  keep := fun i h h' st k => let ⟨⟨old, he⟩, hi, hne⟩ := st; ⟨⟨old, k e (by simp) _ he⟩, hi.at fun o q => k it (by simp) o q, hne⟩
  item := by
    intro X hP hw hK hc i pins s σ H E I hf st hg
    subst hP hw hK
    obtain ⟨⟨old, he⟩, hit, hne, hai, hae⟩ := st
    obtain ⟨xs, x, hq, hx⟩ := hg
    obtain ⟨its, rv, p, hz⟩ := I.tuple hq
    obtain ⟨u, hu, ru⟩ := rv.get hx
    have hel : e < s.heap.objs.size := Heap.lt_size he
    have hil : it < s.heap.objs.size := by obtain ⟨_, q, _⟩ := hit; exact Heap.lt_size q
    have hlt : i < its.toArray.size := by simpa using (List.getElem?_eq_some_iff.mp hu).1
    refine wpAny_pyNext_enum_itemC (Draws.tuple (show X.A.in1.handled = none from I.ok.hd hc) it a hai its.toArray) he ⟨hit, p⟩ hlt hne (by simp [hne, Ne.symm hae]) fun x' h' tk hP' ho hit' hT hsz hk => ?_
    obtain rfl : x' = u := by
      have h1 : its.toArray[i]? = some x' := hP'
      have h2 : its.toArray[i]? = some u := by simpa using hu
      rw [h1] at h2
      exact Option.some.inj h2
    refine ⟨_, rfl, wpAny_letOwnedTupleGo_enum (s := { s with heap := h', toks := tk + 1 }) ho fun h'' he' sb => ?_⟩
    have hT2 : h''.get? s.heap.objs.size = some { cls := .type "tuple", data := .seq #[.int (k + ((i : Nat) : Int)) tk, x'] } := (sb.2 _ (Nat.ne_of_gt hel)).trans hT
    have new : ObjOk X.prog X.w (upd H s.heap.objs.size (.tup [.int (k + (i : Nat)), x])) h'' s.heap.objs.size (.tup [.int (k + (i : Nat)), x]) :=
      ⟨by show 2 ≤ sizeLine; decide, [.int (k + ((i : Nat) : Int)) tk, x'], .cons ⟨_, rfl⟩ (.cons ru .nil), ⟨_, hT2, rfl, _, rfl⟩⟩
    have I1 : Inv X pins σ (upd H s.heap.objs.size (.tup [.int (k + (i : Nat)), x])) { s with heap := h'', toks := tk + 1 } :=
      I.turnedNew (ch := [e, it]) (fun b ob hb q => (sb.2 b (fun z => hb (by simp [z]))).trans (hk b ob (fun z => hb (by simp [z])) (fun z => hb (by simp [z])) q)) hf (Nat.le_refl _) new
    refine ⟨.ref s.heap.objs.size, _, I1, rfl, ⟨_, x, rfl, I.hok.fresh (Nat.le_refl _), rfl, fun ys hy => by rw [I.tuple_inj hy hq]; exact hx⟩, ⟨⟨x', ?_⟩, hit'.1.at fun o q => (sb.2 it (Ne.symm hne)).trans q, hne, hai, hae⟩, fun b hb => ?_⟩
    · have e1 : k + ((i + 1 : Nat) : Int) = k + (i : Int) + 1 := by omega
      rw [e1]; exact he'
    · have hb' : b < s.heap.objs.size := by
        have e' : b = e ∨ b = it := by simpa using hb
        rcases e' with z | z
        · rw [z]; exact hel
        · rw [z]; exact hil
      rw [upd_ne (Nat.ne_of_lt hb')]
      exact (hf b hb).1
  done := by
    intro X hP hw hK hc i pins s σ H E I hf st hg
    subst hP hw hK
    obtain ⟨⟨old, he⟩, hit, hne, hai, hae⟩ := st
    obtain ⟨xs, hq, hx⟩ := hg
    obtain ⟨its, rv, p, hz⟩ := I.tuple hq
    obtain ⟨f0, f1, f2, f3, f4, f5⟩ := hf it (by simp)
    have hl := rv.length
    have hn : i = its.toArray.size := by simp; omega
    subst hn
    exact wpAny_pyNext_enum_endD (Draws.tuple (show X.A.in1.handled = none from I.ok.hd hc) it a hai its.toArray) he ⟨hit, p⟩ fun h' eb => ⟨rfl, I.turned (t' := s.toks) (fun b o hb q => eb b o hb q) f0 f1 f3 f4 f5⟩
  self := fun A i s Q E st h => let ⟨⟨_, he⟩, _⟩ := st; wpAny_pyIter_enum he h
def iEnumS (K : PySem.W.Frag) (ta tk : TA) : TI := fun σ H R => ta σ H fun vs H1 => tk σ H1 fun zs H2 => ∃ a xs k, vs = [.ref a] ∧ zs = [.int k] ∧ -(2 ^ 62) ≤ k ∧ k < 2 ^ 62 ∧ ((SqL K H2 a xs ∧ R (IteS K a k) H2) ∨ (SqT K H2 a xs ∧ R (IteT K a k) H2))
theorem pi_enumS {X : Cx} {e : Expr} {ta tk : TA} {kws : List Keyword} {p pos tpos : Pos} {elts : List Expr} {kk : Nat} (hg : Gl X "enumerate") (hm : X.mg "enumerate" = none) (ha : PA X [e] ta) (hkw : PK X kws tk)
    (he : backTo pos (starEach (e :: []) X.env) = (false, eval e X.env) :: backTo pos (starEach [] X.env) := by rfl) (hpl : (backTo pos (starEach (e :: []) X.env)).any (·.1) = false := by rfl)
    (hall : (backToKw pos (keywordEach kws X.env)).all (·.1.isSome) = true := by rfl) (hnone : (backToKw pos (keywordEach kws X.env)).any (·.1.isNone) = false := by rfl) (hks : (backToKw pos (keywordEach kws X.env)).filterMap (·.1) = [Str.ofString "start"] := by rfl) :
    PI X (.Tuple elts kk tpos) (.Call (.Name "enumerate" p) [e] kws pos) (iEnumS X.K ta tk) := by
  refine ⟨fun pins s σ H R I h => ?_⟩
  refine wpAny_Call_Name_kw (ld_blt I hg hm boot_enumerate ?_)
  refine callWith_typeK (thn (ha.run pos pins s σ H _ I h) fun us s1 ⟨vs, H1, I1, r1, q1⟩ => thn (hkw.run pos pins s1 σ H1 _ I1 q1) fun ws s2 ⟨zs, H2, I2, r2, q2⟩ => ?_) he hpl hall hnone
  rw [hks]
  obtain ⟨a, xs, k, ex, ez, k0, k1, hq⟩ := q2
  subst ex ez
  have wk : -(2 ^ 63) ≤ k ∧ k < 2 ^ 63 := by omega
  cases r2 with
  | cons rz rr2 =>
  cases rr2
  obtain ⟨t, rfl⟩ := rz
  cases r1 with
  | cons r rr =>
    cases rr
    cases r
    have hle : ∀ b, b = s2.heap.objs.size + 1 ∨ b = s2.heap.objs.size → s2.heap.objs.size ≤ b := fun b e => by
      rcases e with z | z
      · rw [z]; exact Nat.le_add_right _ _
      · rw [z]; exact Nat.le_refl _
    rcases hq with ⟨hq, q⟩ | ⟨hq, q⟩
    · obtain ⟨its, rv, p', hz⟩ := I2.list hq
      have la : a < s2.heap.objs.size := p'.lt
      refine enum_begins_start (begins_list a its.toArray) p'.isList wk.1 wk.2 fun h' he hit hsz hk => wpAny_pyIter_enum he ?_
      have I3 : L2.Inv X pins σ H2 { s2 with heap := h' } := I2.kept (t' := s2.toks) hk
      refine ⟨s2.heap.objs.size + 1, [s2.heap.objs.size + 1, s2.heap.objs.size], _, _, H2, rfl, I3, turn_enumS a (s2.heap.objs.size + 1) s2.heap.objs.size k, ⟨⟨.none, by simpa using he⟩, ⟨_, hit, rfl, rfl⟩, Nat.succ_ne_self _, Nat.ne_of_lt la, fun z => by rw [z] at la; exact absurd la (Nat.not_lt.mpr (Nat.le_succ _))⟩, fun b hb => ?_, q⟩
      have := hle b (by simpa using hb)
      exact I2.fpOk this (I2.hok.fresh this)
    · obtain ⟨its, rv, p', hz⟩ := I2.tuple hq
      have la : a < s2.heap.objs.size := by obtain ⟨o, e, _⟩ := p'; exact Heap.lt_size e
      refine enum_begins_start (begins_tuple a its.toArray) p' wk.1 wk.2 fun h' he hit hsz hk => wpAny_pyIter_enum he ?_
      have I3 : L2.Inv X pins σ H2 { s2 with heap := h' } := I2.kept (t' := s2.toks) hk
      refine ⟨s2.heap.objs.size + 1, [s2.heap.objs.size + 1, s2.heap.objs.size], _, _, H2, rfl, I3, turn_enumT a (s2.heap.objs.size + 1) s2.heap.objs.size k, ⟨⟨.none, by simpa using he⟩, ⟨_, hit, rfl, rfl⟩, Nat.succ_ne_self _, Nat.ne_of_lt la, fun z => by rw [z] at la; exact absurd la (Nat.not_lt.mpr (Nat.le_succ _))⟩, fun b hb => ?_, q⟩
      have := hle b (by simpa using hb)
      exact I2.fpOk this (I2.hok.fresh this)
end
section
variable {K : PySem.W.Frag} {H1 : Hp} {L : List (Addr × Ob)} {P : List Pf}
variable {g : TG} {te : TE} {tt : TT} {wv : List Nat} {σ : L2.St} {D : Addr} {Qd : Hp → Prop}
/-- sifted: of those of zs that t takes, data -/
theorem lc_siftD {α : Type} {J : It} {G : Hp → Prop} {Y : Nat → Hp → V → Hp → Prop} (zs : List α) (dat : α → PyData) (t : α → Bool) (w : Walk J zs.length G Y) (h : Own K H1 L P) (hD : H1 D = none) (hz : zs.length ≤ 10000)
    (ha : ∀ (H : Hp) (L' : List (Addr × Ob)) (P' : List Pf), (∀ p ∈ L, p ∈ L') → Ps P P' → Own K H L' P' → G H)
    (hs : ∀ (i : Nat) (z : α) (x : V) (H H' : Hp) (P' : List Pf) (ds : List PyData) (Qn : Hp → Prop) (Qy : VK), zs[i]? = some z → Y i H x H' → Ps P P' → Own K H ((D, .L ds) :: L) P' →
      (t z = false → ∀ (H'' : Hp) (P'' : List Pf), Ps P' P'' → Own K H'' ((D, .L ds) :: L) P'' → Qn H'') →
      (t z = true → ∀ (y : V) (H'' : Hp) (P'' : List Pf), Ps P' P'' → Own K H'' ((D, .L ds) :: L) P'' → Dv1 K P'' y (dat z) → Qy y H'') → g x (wipe σ wv) H' fun σ2 H2 => wipe σ2 wv = wipe σ wv ∧ tt σ2 H2 fun b H3 => if b = true then te σ2 H3 Qy else Qn H3)
    (hd : ∀ (H' : Hp) (P' : List Pf), Ps P P' → Own K H' ((D, .L ((zs.filter t).map dat)) :: L) P' → Qd H') :
    ∃ W : Nat → Nat → Hp → Prop, (∃ m, W 0 m (upd H1 D (.lst []))) ∧ ∀ i m H, W i m H →
      (J.stop i H ∧ Qd H) ∨ (J.go i H ∧ ∃ Nx : Hp → Prop, (∀ H', Nx H' → ∃ m', m' < m ∧ W (i + 1) m' H') ∧ ∀ x H', J.yld i H x H' → g x (wipe σ wv) H' fun σ2 H2 => wipe σ2 wv = wipe σ wv ∧ tt σ2 H2 fun b H3 =>
        if b = true then te σ2 H3 fun y H4 => ∃ acc, H4 D = some (.lst acc) ∧ acc.length < sizeLine ∧ Nx (upd H4 D (.lst (acc ++ [y]))) else Nx H3) := by
  refine lc_it w (fun i H => ∃ P', Ps P P' ∧ Own K H ((D, .L (((zs.take i).filter t).map dat)) :: L) P') ⟨P, Ps.refl, ?_⟩ (fun i H _ ⟨P', s, q⟩ => ha H _ P' (fun p m => List.mem_cons_of_mem _ m) s q) (fun i x H H' hi ⟨P', s, q⟩ y => ?_) (fun H ⟨P', s, q⟩ => hd H P' s (by rw [List.take_of_length_le (Nat.le_refl _)] at q; exact q))
  · have h2 := h.new hD (o := .lst []) rfl
    exact h2.closeL (vs := []) List.mem_cons_self (by rw [List.take_zero]; exact Dv.nil) .head
  · have et : zs.take (i + 1) = zs.take i ++ [zs[i]] := by rw [List.take_add_one, List.getElem?_eq_getElem hi]; rfl
    refine hs i zs[i] x H H' P' _ _ _ (List.getElem?_eq_getElem hi) y s q (fun tn H'' P'' s' q' => ⟨P'', fun r m => s' r (s r m), ?_⟩) (fun ty y H'' P'' s' q' dv => ?_)
    · rw [et, List.filter_append, List.filter_cons, tn]; simpa using q'
    · obtain ⟨vs, ev, dvs⟩ := q'.lst List.mem_cons_self
      have len := dvs.len
      have hlen : vs.length ≤ 10000 := by
        rw [len, List.length_map]
        exact Nat.le_trans (List.length_filter_le _ _) (by rw [List.length_take]; omega)
      refine ⟨vs, ev, size_lt hlen, P'', fun r m => s' r (s r m), ?_⟩
      have e2 : ((zs.take (i + 1)).filter t).map dat = ((zs.take i).filter t).map dat ++ [dat zs[i]] := by rw [et, List.filter_append, List.filter_cons, ty]; simp
      rw [e2]
      exact own_app (i := i) q' ev dv
end
end Hx

set_option Elab.async false
set_option linter.all false
set_option maxRecDepth 100000
set_option maxHeartbeats 4000000
/-! != by an own __eq__: object.__ne__ asks it and turns its answer -/
namespace Hx
open PySem PySem.Spec PyProof.Rows L2 PySem.W
section
variable {prog : Program} {w : World} {A : Around} {E : Value → Shared → Prop} {s : Shared} {K : Frag} {x C L f : Addr} {h₀ : Heap} {m : Str → Option Value} {ox : Obj} {od : Option Obj} {name : Str} {b tb : Value}
theorem one_bind (self : Value) : bindSpecial (.builtin "object.__ne__") self = pure (.builtin "object.__ne__", [self]) :=
  (Slot.of (T := "object") (name := "__ne__") (owner := "object") (n := "__ne__") (by rw [typeLookup_type, builtinLookup_eq_fast]; kernel_rfl) (by decide +kernel) (by decide +kernel) (by decide +kernel)
    (.inl (by decide +kernel)) (by rw [isSubtype_type]; kernel_rfl)).bind self
theorem ifBound_B {M : Model} {id : String} {args : List Value} {Q : Option Value → Shared → Prop} (X : K.In s.heap) (I : InstAt s.heap x ox C od) (hs : findIn K (.ref C) name = some (some (.builtin id))) (hb : ∀ self, bindSpecial (.builtin id) self = pure (.builtin id, [self]))
    (h : wpAny M A (call (.builtin id) (.ref x :: args)) (fun v => Q (some v)) E s) : wpAny M A (callSpecialIfBound? (.ref x) name args) Q E s := by
  simp only [callSpecialIfBound?, bindSpecialIfBound?]
  refine wpAny_holding (wpAny_bind (wpAny_bind (wpAny_bind (I.type.here ((looks_findIn X hs).here ?_)))))
  refine wpAny_bind (wpAny_askSetting (wpAny_ite ?_))
  have fin : wpAny M A (call (.builtin id) ([.ref x] ++ args) >>= fun v => pure (some v)) Q E s := wpAny_bind (wpAny_mono h (fun v s' h' => wpAny_pure h') fun _ _ h' => h')
  split
  · rw [hb]; exact wpAny_bind (wpAny_pure (wpAny_pure fin))
  · rw [hb]; exact wpAny_tryCatch (wpAny_bind (wpAny_pure (wpAny_pure fin)))
theorem check_ne (X : K.In s.heap) (I : InstAt s.heap x ox C od) (ho : subIn K (.ref C) (.type "object") = some true) {Q : Unit → Shared → Prop} (hq : Q () s) :
    wpAny (model prog w) A (checkBuiltinCall "object.__ne__" ⟨[.ref x, b], []⟩) Q E s := by
  have ha := PySem.F.cmpArgs_ne (.ref x) b
  simp only [checkBuiltinCall, PySem.F.cmpKind_ne, PySem.F.cmpSplit_ne]
  refine wpAny_bind ?_
  unfold isInstance
  refine wpAny_bind (I.type.here ((looks_subIn X ho).here ?_))
  simp only [Bool.not_true, Bool.false_eq_true, if_false]
  cases hsig : Manifest.signature? "object.__ne__" with
  | none => exact wpAny_pure hq
  | some sig =>
    simp only [argsOk, hsig] at ha
    have h2 : Bind.checkArgs "object.__ne__" sig ⟨[.ref x, b], []⟩ = pure () := ha
    show wpAny _ _ (Bind.checkArgs "object.__ne__" sig ⟨[.ref x, b], []⟩) Q E _
    rw [h2]; exact wpAny_pure hq
theorem ne_K {Q : Value → Shared → Prop} (hu : A.units + 1 < cLine) (F : Fr h₀ L s.heap m) (X₀ : K.In h₀) (I : InstAt s.heap x ox C od) (hb : Looks (model prog w) s.heap (typeOf b) tb) (hn : notFirst K C tb = true)
    (hs : findIn K (.ref C) "__eq__" = some (some (.ref f))) (hf : isFn K (.ref f) = true) (hne : findIn K (.ref C) "__ne__" = some (some (.builtin "object.__ne__"))) (ho : subIn K (.ref C) (.type "object") = some true)
    (h : wpAny (model prog w) A.in1 (call (.ref f) [.ref x, b]) (fun v s' => ∃ c : Bool, v = .bool c ∧ Q (.bool (!c)) s') E s) : wpAny (model prog w) A (richCompare .NotEq (.ref x) b) Q E s := by
  have X := X₀.keeps F.keep
  have one : wpAny (model prog w) A (tryCompare (.ref x) "__ne__" b) (fun r s' => ∃ v, r = some v ∧ Q v s') E s := by
    unfold tryCompare
    refine wpAny_bind (ifBound_B X I hne one_bind ?_)
    refine wpAny_call (codeAny_call_builtin (by decide +kernel) PySem.F.cmpEntry_ne (check_ne X I ho ?_))
    unfold Builtin.«object.__ne__»
    refine wpAny_bind (wpAny_of_eq (a := ((Value.ref x : Value), [b])) (by first | rfl | (simp only [slotArgs]; rfl)) ?_)
    refine wpAny_bind (wpAny_cRoomFor hu ?_)
    refine wpAny_bind (ifBound_K X I hs hf (wpAny_mono h (fun v s' hv => ?_) fun _ _ e => e))
    obtain ⟨c, rfl, hq⟩ := hv
    exact wpAny_bind (wpAny_pure (wpAny_pure (wpAny_pure ⟨_, rfl, hq⟩)))
  unfold richCompare
  simp only [oneThing_ref]
  refine wpAny_holding (wpAny_bind (wpAny_cRoomFor (by omega) ?_))
  refine wpAny_bind (I.type.here (wpAny_bind (hb.here ?_)))
  split
  · rename_i q
    have e : subIn K tb (.ref C) = some false := by
      rcases Bool.or_eq_true_iff.mp hn with e | e
      · rw [beq_iff_eq.mp e] at q; simp at q
      · exact beq_iff_eq.mp e
    refine wpAny_bind ((looks_subIn X e).here ?_)
    simp only [Bool.false_eq_true, if_false]
    refine wpAny_bind (wpAny_mono one (fun r s' z => ?_) fun _ _ e => e)
    obtain ⟨v, rfl, hq⟩ := z
    exact wpAny_pure hq
  · refine wpAny_bind (wpAny_pure ?_)
    simp only [Bool.false_eq_true, if_false]
    refine wpAny_bind (wpAny_mono one (fun r s' z => ?_) fun _ _ e => e)
    obtain ⟨v, rfl, hq⟩ := z
    exact wpAny_pure hq
end
/-- the walker stops at the operator -/
theorem op_stop {X : Cx} {f : Value → Value → Sem Value} {r : R2} (h : OpR X f r) : OpR X f (fun x y H Q => Stop (r x y H Q)) := fun pins s σ H x y v u Q I rx ry q => h pins s σ H x y v u Q I rx ry q.h
/-- what a look-up with something else hands back, by a fact of the context -/
structure EqV (a b : V) : Prop where
  h : a = b
def tDGet2E (td ty tx : TE) : TE := fun σ H Q => td σ H fun x H1 => ∃ a, x = .ref a ∧ IsD H1 a ∧ ty σ H1 fun y H2 => tx σ H2 fun z H3 => ∃ (o : Option V) (w : V), DGet H3 a y o ∧ EqV (o.getD z) w ∧ Q w H3
theorem pe_dget2E {X : Cx} {o e f : Expr} {td ty tx : TE} {apos cpos : Pos} (hu : X.A.units + 1 < cLine) (ho : PE X o td) (he : PE X e ty) (hf : PE X f tx) (m : M2 X o "get" apos e f cpos) : PE X (.Call (.Attribute o "get" apos) [e, f] [] cpos) (tDGet2E td ty tx) := by
  refine ⟨fun pins s σ H Q I h => ?_⟩
  refine wpAny_Call_method m.base m.few m.line PySem.F.plainAttrs_dict PySem.F.slot_dict_get PySem.F.type_dict_get (thn (ho.run pins s σ H _ I h) fun u s1 ⟨x, H1, I1, rx, a, ex, d, q1⟩ => ?_)
  subst ex
  obtain rfl : u = Value.ref a := rx
  obtain ⟨t1, t2, _⟩ := isD_at I1 d
  refine ⟨t1, t2, ?_⟩
  rw [m.trees]
  refine Calls.callWith_builtin rfl (Calls.evalArgs_plain (Calls.spliced_cons (thn (he.run pins s1 σ H1 _ I1 q1) fun iv s2 ⟨y, H2, I2, ry, q2⟩ =>
    Calls.spliced_cons (thn (hf.run pins s2 σ H2 _ I2 q2) fun fv s3 ⟨z, H3, I3, rz, ov, wv, g, ⟨e⟩, q3⟩ => Calls.spliced_nil ?_))))
  subst e
  exact d_get2 hu I3 g ry rz fun w' s4 I4 rw' => ⟨_, H3, I4, rw', q3⟩
section
variable {X : Cx} {n : Nat} {C f : Addr} {fd : FuncData} {ps : List Str} {sp : Sp}
/-- the call of __eq__ within object.__ne__ -/
theorem ne_call (F : FnOk X.prog X.w X.K X.mg X.base CX0 n f fd ps sp) (hr : Room (n + 1) X.A) (hb : Binds X.K fd ps []) {pins : List (Addr × Obj)} {s : Shared} {σ : L2.St} {H : Hp} (I : L2.Inv X pins σ H s) {a b : Addr} {Q : VK}
    (hsp : sp [.ref a, .ref b] H (fun v H' => ∃ c, v = .bl c ∧ Q (.bl (!c)) H') (fun _ _ _ => False)) :
    wpAny (model X.prog X.w) X.A.in1 (call (.ref f) [.ref a, .ref b]) (fun v s' => ∃ c : Bool, v = .bool c ∧ EP X pins σ Q (.bool (!c)) s') X.xe s := by
  have hl := F.len _ _ _ _ hsp
  have r2 : Vals [V.ref a, V.ref b] [Value.ref a, Value.ref b] := .cons rfl (.cons rfl .nil)
  have hB : BindsTo s fd ⟨[.ref a, .ref b], []⟩ (ps.zip [.ref a, .ref b]) := by
    have := hb s [.ref a, .ref b] I.kIn (by simpa using hl)
    simpa using this
  refine wpAny_call (codeAny_mono (F.run X.A.in1 X.stack s H ⟨[.ref a, .ref b], []⟩ [.ref a, .ref b] [.ref a, .ref b] _ _ hr.in1 I.env0.in1 hB r2 hsp) fun r s' hq => ?_)
  match r, hq with
  | .ok (.ret w), hq =>
    obtain ⟨z, H', I', rz, c, rfl, q⟩ := I.after hq
    cases rz
    exact ⟨c, rfl, .bl (!c), H', I', rfl, q⟩
  | .error e, hq => exact False.elim hq
  | .ok .next, hq => exact False.elim hq
  | .ok .brk, hq => exact False.elim hq
  | .ok .cont, hq => exact False.elim hq
/-- x != y by the class's own ==, whatever it answers -/
theorem op_neOwn (F : FnOk X.prog X.w X.K X.mg X.base CX0 n f fd ps sp) (hr : Room (n + 1) X.A)
    (hs : PySem.W.findIn X.K (.ref C) "__eq__" = some (some (.ref f))) (hf : PySem.W.isFn X.K (.ref f) = true) (hb : Binds X.K fd ps []) (hne : findIn X.K (.ref C) "__ne__" = some (some (.builtin "object.__ne__"))) (ho : subIn X.K (.ref C) (.type "object") = some true) :
    OpR X (compareOp .NotEq) (fun x y H Q => ∃ a b dx dy fs gs, x = .ref a ∧ y = .ref b ∧ H a = some (.ins C dx fs) ∧ H b = some (.ins C dy gs) ∧ sp [.ref a, .ref b] H (fun v H' => ∃ c, v = .bl c ∧ Q (.bl (!c)) H') (fun _ _ _ => False)) := by
  intro pins s σ H x y v u Q I rx ry h
  obtain ⟨a, b, dx, dy, fs, gs, rfl, rfl, ha, hb', hsp⟩ := h
  cases rx
  cases ry
  obtain ⟨mA, J, _⟩ := ins_get I.hok ha
  obtain ⟨mB, J', _⟩ := ins_get I.hok hb'
  obtain ⟨od, J, _⟩ := J.look
  obtain ⟨od', J', _⟩ := J'.look
  obtain ⟨m, hF⟩ := I.fr
  have hu := hr.un
  exact ne_K (tb := .ref C) (by omega) hF I.ok.mod.kin J J'.type (by simp [PySem.W.notFirst]) hs hf hne ho (ne_call F hr hb I hsp)
/-- the same beside a list -/
theorem op_neOwnL (F : FnOk X.prog X.w X.K X.mg X.base CX0 n f fd ps sp) (hr : Room (n + 1) X.A)
    (hs : PySem.W.findIn X.K (.ref C) "__eq__" = some (some (.ref f))) (hf : PySem.W.isFn X.K (.ref f) = true) (hb : Binds X.K fd ps []) (hsl : PySem.W.subIn X.K (.type "list") (.ref C) = some false) (hne : findIn X.K (.ref C) "__ne__" = some (some (.builtin "object.__ne__"))) (ho : subIn X.K (.ref C) (.type "object") = some true) :
    OpR X (compareOp .NotEq) (fun x y H Q => ∃ a b dx fs xs, x = .ref a ∧ y = .ref b ∧ H a = some (.ins C dx fs) ∧ H b = some (.lst xs) ∧ sp [.ref a, .ref b] H (fun v H' => ∃ c, v = .bl c ∧ Q (.bl (!c)) H') (fun _ _ _ => False)) := by
  intro pins s σ H x y v u Q I rx ry h
  obtain ⟨a, b, dx, fs, xs, rfl, rfl, ha, hb', hsp⟩ := h
  cases rx
  cases ry
  obtain ⟨mA, J, _⟩ := ins_get I.hok ha
  obtain ⟨od, J, _⟩ := J.look
  obtain ⟨_, _, nn, _, h1⟩ := (show ObjOk X.prog X.w H s.heap b (.lst xs) from I.hok b _ hb')
  obtain ⟨m, hF⟩ := I.fr
  have hu := hr.un
  exact ne_K (tb := .type "list") (by omega) hF I.ok.mod.kin J (fun A Q E s k q => wpAny_typeOf_ref (k _ _ h1) q) (by simp [PySem.W.notFirst, hsl]) hs hf hne ho (ne_call F hr hb I hsp)
end
end Hx

set_option Elab.async false
set_option linter.all false
set_option maxRecDepth 100000
set_option maxHeartbeats 4000000
/-! what repr asks of nested tuples and lists of small things; sorted lists of places -/
namespace Hx
open PySem PySem.Spec PyProof.Rows L2
structure Sh (k b : Nat) (d : PyData) : Prop where
  sw : d.showable = true
  nd : d.hasDict = false
  dp : d.depth ≤ k
  ln : d.shown.length ≤ b
theorem Sh.mono {k b k' b' : Nat} {d : PyData} (x : Sh k b d) (h1 : k ≤ k') (h2 : b ≤ b') : Sh k' b' d := ⟨x.sw, x.nd, Nat.le_trans x.dp h1, Nat.le_trans x.ln h2⟩
theorem sh_num {n : Int} (h : 0 ≤ n ∧ n < 10 ^ 20) : Sh 0 20 (.int n) := ⟨by rw [PyData.showable]; exact decide_eq_true (log_small h), by rw [PyData.hasDict], by simp [PyData.depth], by
  rw [PyData.shown]; exact toString_length_le h.1 (by decide : 0 < 20) h.2⟩
theorem sh_non : Sh 0 20 .none := ⟨by rw [PyData.showable], by rw [PyData.hasDict], by simp [PyData.depth], by rw [PyData.shown]; decide⟩
theorem sh_all {k b : Nat} : ∀ {ds : List PyData}, (∀ d ∈ ds, Sh k b d) → PyData.showableAll ds = true ∧ PyData.hasDictAll ds = false ∧ PyData.depthAll ds ≤ k ∧ piled (PyData.shownAll ds) ≤ (b + 2) * ds.length
  | [], _ => ⟨rfl, rfl, by simp [PyData.depthAll], Nat.le_refl _⟩
  | d :: r, h => by
    obtain ⟨i1, i2, i3, i4⟩ := sh_all (ds := r) fun x hx => h x (List.mem_cons_of_mem _ hx)
    have x := h d List.mem_cons_self
    refine ⟨by rw [PyData.showableAll, x.sw, i1]; rfl, by rw [PyData.hasDictAll, x.nd, i2]; rfl, by rw [PyData.depthAll]; exact Nat.max_le.mpr ⟨x.dp, i3⟩, ?_⟩
    rw [PyData.shownAll, piled_cons, List.length_cons, Nat.mul_succ]
    have := x.ln
    omega
theorem sh_tup {k b : Nat} (m : Nat) {ds : List PyData} (h : ∀ d ∈ ds, Sh k b d) (hm : ds.length ≤ m) : Sh (k + 1) ((b + 2) * m + 3) (.tuple ds) := by
  obtain ⟨i1, i2, i3, i4⟩ := sh_all h
  refine ⟨by rw [PyData.showable]; exact i1, by rw [PyData.hasDict]; exact i2, by rw [PyData.depth]; omega, ?_⟩
  have i5 : (b + 2) * ds.length ≤ (b + 2) * m := Nat.mul_le_mul_left _ hm
  rw [PyData.shown]
  unfold tupleText
  rw [strLen_append, strLen_append]
  have e1 : (("(" : String) : Str).length = 1 := rfl
  have e2 : ∀ c : Bool, ((if c = true then ",)" else ")" : String) : Str).length ≤ 2 := fun c => by cases c <;> decide
  have e3 : (Str.join ", " (PyData.shownAll ds)).length ≤ piled (PyData.shownAll ds) := by
    by_cases z : PyData.shownAll ds = []
    · rw [z]; exact Nat.le_refl 0
    · have := join_length_add _ z
      omega
  have := e2 ((PyData.shownAll ds).length == 1)
  rw [e1]
  omega
/-- a sorted list of the places below m, each once -/
theorem sorted_range {ns xs : List Int} {m : Nat} (hp : ns.Perm xs) (hs : ns.Pairwise (· ≤ ·)) (nd : xs.Nodup) (hl : xs.length = m) (hb : ∀ x ∈ xs, 0 ≤ x ∧ x < m) : ns = (List.range m).map fun i : Nat => (i : Int) := by
  have hn : ns.Nodup := hp.symm.nodup nd
  have h2 : ns.Pairwise (· < ·) := (hs.and hn).imp fun {a b} h => by have := h.1; have h3 : a ≠ b := h.2; omega
  have hb2 : ∀ x ∈ ns, 0 ≤ x ∧ x < m := fun x hx => hb x (hp.mem_iff.mp hx)
  have hl2 : ns.length = m := hp.length_eq.trans hl
  -- a rising list of so many below m
  have key : ∀ (ns : List Int) (a m : Int), ns.Pairwise (· < ·) → (∀ x ∈ ns, a ≤ x ∧ x < m) → (ns.length : Int) = m - a → ∀ i (h : i < ns.length), ns[i] = a + i := by
    intro ns
    induction ns with
    | nil => intro a m _ _ _ i h; simp at h
    | cons y r ih =>
      intro a m hs hb hl i h
      obtain ⟨h1, h2⟩ := List.pairwise_cons.mp hs
      have hy := hb y List.mem_cons_self
      have gap : ∀ (r : List Int) (y m : Int), r.Pairwise (· < ·) → (∀ x ∈ r, y < x ∧ x < m) → (r.length : Int) ≤ m - y - 1 ∨ r = [] := by
        intro r
        induction r with
        | nil => intro _ _ _ _; exact .inr rfl
        | cons z q ih2 =>
          intro y m hs hb
          obtain ⟨g1, g2⟩ := List.pairwise_cons.mp hs
          have hz := hb z List.mem_cons_self
          left
          rcases ih2 z m g2 (fun x hx => ⟨g1 x hx, (hb x (List.mem_cons_of_mem _ hx)).2⟩) with q1 | q1
          · rw [List.length_cons]; omega
          · rw [q1]; simp; omega
      have hya : y = a := by
        rw [List.length_cons] at hl
        rcases gap r y m h2 (fun x hx => ⟨h1 x hx, (hb x (List.mem_cons_of_mem _ hx)).2⟩) with q1 | q1
        · omega
        · rw [q1] at hl; simp at hl; omega
      subst hya
      cases i with
      | zero => simp
      | succ j =>
        rw [List.getElem_cons_succ, ih (y + 1) m h2 (fun x hx => ⟨by have := h1 x hx; omega, (hb x (List.mem_cons_of_mem _ hx)).2⟩) (by rw [List.length_cons] at hl; omega)]
        omega
  apply List.ext_getElem (by simp [hl2])
  intro i h3 h4
  rw [key ns 0 m h2 hb2 (by omega) i h3]
  simp
/-! ### an own == beside a tuple -/
theorem op_eqOwnT {X : Cx} {n : Nat} {C f : Addr} {fd : FuncData} {ps : List Str} {sp : Sp} (F : FnOk X.prog X.w X.K X.mg X.base CX0 n f fd ps sp) (hr : Room n X.A)
    (hs : PySem.W.findIn X.K (.ref C) "__eq__" = some (some (.ref f))) (hf : PySem.W.isFn X.K (.ref f) = true) (hb : Binds X.K fd ps []) (hsl : PySem.W.subIn X.K (.type "tuple") (.ref C) = some false) :
    OpR X (compareOp .Eq) (fun x y H Q => ∃ a b dx fs xs, x = .ref a ∧ y = .ref b ∧ H a = some (.ins C dx fs) ∧ H b = some (.tup xs) ∧ sp [.ref a, .ref b] H (fun v H' => ∃ c, v = .bl c ∧ Q (.bl c) H') (fun _ _ _ => False)) := by
  intro pins s σ H x y v u Q I rx ry h
  obtain ⟨a, b, dx, fs, xs, rfl, rfl, ha, hb', hsp⟩ := h
  cases rx
  cases ry
  obtain ⟨mA, J, _⟩ := ins_get I.hok ha
  obtain ⟨od, J, _⟩ := J.look
  obtain ⟨_, _, nn, _, h1, hc, _⟩ := (show ObjOk X.prog X.w H s.heap b (.tup xs) from I.hok b _ hb')
  obtain ⟨m, hF⟩ := I.fr
  have hu := hr.un
  refine PySem.W.cmp_K (op := .Eq) (tb := .type "tuple") (by omega) hF I.ok.mod.kin J (fun A Q E s k q => wpAny_typeOf_ref (k _ _ h1) (by rw [hc]; exact q)) (by simp [PySem.W.notFirst, hsl]) hs hf ?_
  have hl := F.len _ _ _ _ hsp
  have r2 : Vals [V.ref a, V.ref b] [Value.ref a, Value.ref b] := .cons rfl (.cons rfl .nil)
  have hB : BindsTo s fd ⟨[.ref a, .ref b], []⟩ (ps.zip [.ref a, .ref b]) := by
    have := hb s [.ref a, .ref b] I.kIn (by simpa using hl)
    simpa using this
  refine wpAny_call (codeAny_mono (F.run X.A X.stack s H ⟨[.ref a, .ref b], []⟩ [.ref a, .ref b] [.ref a, .ref b] _ _ hr I.env0 hB r2 hsp) fun r s' hq => ?_)
  match r, hq with
  | .ok (.ret w), hq =>
    obtain ⟨z, H', I', rz, c, rfl, q⟩ := I.after hq
    cases rz
    exact ⟨.bl c, H', I', rfl, q⟩
  | .error e, hq => exact False.elim hq
  | .ok .next, hq => exact False.elim hq
  | .ok .brk, hq => exact False.elim hq
  | .ok .cont, hq => exact False.elim hq
theorem kit_notT {K : PySem.W.Frag} {C : Addr} (h1 : PySem.W.isClsIn K C = true) (h2 : PySem.W.typeIn K (.ref C) = some (.type "type")) (h3 : PySem.W.subIn K (.type "tuple") (.ref C) = some false) : PySem.W.kitOne K (.type "tuple") (.ref C) = some false := by
  have e : ((PySem.W.clsIn K C).isSome && PySem.W.typeIn K (.ref C) == some (.type "type")) = true := by
    have h1' : (PySem.W.clsIn K C).isSome = true := h1
    rw [h1', h2] <;> rfl
  show (if ((Value.type "tuple" == .ref C) = true) then some true else (if ((PySem.W.clsIn K C).isSome && PySem.W.typeIn K (.ref C) == some (.type "type")) = true then PySem.W.subIn K (.type "tuple") (.ref C) else none)) = some false
  rw [if_neg (by intro z; cases z), if_pos e]
  exact h3
end Hx

set_option Elab.async false
set_option linter.all false
set_option maxRecDepth 100000
set_option maxHeartbeats 4000000
/-! raise X() without arguments; repr of an int or None; the sum of a tuple; calls by keywords within a try; a loop over zip with one name as its target -/
namespace Hx
open PySem PySem.Spec PyProof.Rows L2 SkE
section
variable {X : Cx} {pos : Pos}
/-- X(), X an own exception class without own __init__ -/
theorem pmk_own0 {C : Addr} {bmB : List Value} {B newId initId : String} {x : Str} {p : Pos} (F : ExcBaseFacts B newId initId bmB) (q : PySem.W.excIn X.K C bmB newId = true) (gC : X.mg x = some (.ref C))
    (kC : PySem.W.keepIn X.K (.ref C) = true) (r : Raises X (.ref C)) (hg : Gl X x) (hdb : (x == ("__debug__" : Str)) = false := by decide) :
    PMk X (.Call (.Name x p) [] [] pos) (fun _ H Q => Q (.ref C) none H) := by
  intro pins s σ H Q I h
  refine wpAny_Call_Name_kw (ld_glob I hg gC ?_ hdb)
  refine PySem.W.callWith_K0 I.kIn kC ?_
  show wpAny _ _ (call (.ref C) []) _ _ _
  obtain ⟨bm, N, nm, qn, bs, hdct, sn, sub, ab, col, dd, k0, k1, k2, k3, k5, mN, hC, hN, hni, T⟩ := exc_obj I.kIn q
  refine wpAny_call_exc_subT F T hC hN hni (fun h' e hm => ?_) (Nat.zero_le _)
  exact mk_of I hm r h (I.hok.gone hm.new)
/-- repr of an int, of None -/
def rRepIO : List V → Hp → VK → Prop := fun xs H Q => (∃ i : Int, xs = [.int i] ∧ i.natAbs.log2 < 1920 ∧ Q (.str (toString i)) H) ∨ (xs = [.non] ∧ Q (.str "None") H)
theorem call_repr_io : CallR X (.builtin "repr") rRepIO := by
  intro pins s σ H xs us Q I r h
  rcases h with h | ⟨rfl, q⟩
  · exact call_repr_int pins s σ H xs us Q I r h
  · cases r with
    | cons ru rn =>
      cases rn
      cases ru
      exact PySem.P.repr_of_none ⟨.str _, H, I.tok _, ⟨_, rfl⟩, q⟩
/-- {k: v, ..} with keys that are known -/
def tDispK (ks : List Key) (trs : List (TE × TE)) : TE := fun σ H Q => ∀ p, H p = none → tPairs trs σ (upd H p (.dK [])) fun ps H2 => H2 p = some (.dK []) ∧ ps.map Prod.fst = ks.map kV ∧ Q (.ref p) (upd H2 p (.dK (mergeK [] (ks.zip (ps.map Prod.snd)))))
theorem zip_keys : ∀ {ks : List Key} {ps : List (V × V)}, ps.map Prod.fst = ks.map kV → ps = (ks.zip (ps.map Prod.snd)).map fun kv => (kV kv.1, kv.2)
  | [], [], _ => rfl
  | [], _ :: _, h => by simp at h
  | _ :: _, [], h => by simp at h
  | k :: ks, p :: ps, h => by
    simp only [List.map_cons, List.cons.injEq] at h
    simp only [List.map_cons, List.zip_cons_cons, List.cons.injEq]
    exact ⟨by rw [← h.1], zip_keys h.2⟩
theorem pe_dispK {ks : List Key} {keys : List (Option Expr)} {values : List Expr} {trs : List (TE × TE)} (h : PPs X pos keys values trs) (hall : keys.all (·.isSome) = true) (hl : keys.length = values.length) (h0 : keys ≠ [])
    (h15 : keys.length ≤ 15) (hk : ks.length ≤ 15) : PE X (.Dict keys values pos) (tDispK ks trs) := by
  refine ⟨fun pins s σ H Q I q => ?_⟩
  have hn := I.hok.fresh (Nat.le_refl s.heap.objs.size)
  have I1 := I.laid (a := s.heap.objs.size) (o := .dK []) (h' := s.heap.push { cls := .type "dict", data := .dict #[] }) (t' := s.toks) (fun _ _ q => Heap.get?_push_of_some _ q) (Nat.le_refl _) (dk_empty s.heap I.big)
  refine wpAny_Dict_walk (knd := mixKind X.prog X.w) hall hl h0 h15 (thn (h.run pins _ σ _ _ I1 (q _ hn)) fun ws s2 ⟨ps, H2, I2, rel, e, ek, q2⟩ => ?_)
  have ep := zip_keys ek
  have lk : (ks.zip (ps.map Prod.snd)).length ≤ 15 := by rw [List.length_zip]; omega
  generalize ks.zip (ps.map Prod.snd) = kvs at ep lk q2
  subst ep
  obtain ⟨rs, c, rk⟩ := carries_of (P := X.prog) (w := X.w) rel
  obtain ⟨z, hd, vs0, r0, dd⟩ := dk_of I2.hok e
  cases r0
  refine ⟨rs, c, dd, fun h' dd' hs => ⟨.ref s.heap.objs.size, _, ?_, rfl, q2⟩⟩
  have hz : (mergeK [] kvs).length ≤ sizeLine := by
    have h1 := length_mergeK kvs []
    rw [List.length_nil] at h1
    rw [sizeLine_eq]; omega
  have he : ∃ q, h'.get? s.heap.objs.size = some q := let ⟨q, _, _, hq, _⟩ := dd'; ⟨q, hq⟩
  exact d_write I2 (by rw [e]; exact True.intro) hs he (dk_new hz hd (rk.merge .nil) dd')
theorem DGet.ks {H : Hp} {a : Addr} {kvs : List (Key × V)} {x : Str} {r : Option V} (e : H a = some (.dK kvs)) (h : valV kvs (Sum.inr x) = r) : DGet H a (.str x) r := h ▸ DGet.k (k := Sum.inr x) e
/-- in a display; in a tuple of the module's -/
theorem op_inT : OpR X (compareOp .In) (fun x y H Q => ∃ p xs, y = .ref p ∧ H p = some (.tup xs) ∧ flatV x = true ∧ xs.all flatV = true ∧ Q (.bl (inV x xs)) H) :=
  fun pins s σ H x y v u Q I rx ry ⟨p, xs, e, h, q⟩ => op_in_seq pins s σ H x y v u Q I rx ry ⟨p, xs, e, .inr (SqT.of h), q⟩
theorem op_inL : OpR X (compareOp .In) (fun x y H Q => ∃ p xs, y = .ref p ∧ H p = some (.lst xs) ∧ flatV x = true ∧ xs.all flatV = true ∧ Q (.bl (inV x xs)) H) :=
  fun pins s σ H x y v u Q I rx ry ⟨p, xs, e, h, q⟩ => op_in_seq pins s σ H x y v u Q I rx ry ⟨p, xs, e, .inl (SqL.of h), q⟩
theorem op_notInK {D : Addr} {xs : List V} (h : ∀ H : Hp, SqT X.K H D xs) (hf : xs.all flatV = true) : OpR X (compareOp .NotIn) (fun x y H Q => y = .ref D ∧ flatV x = true ∧ Q (.bl (!inV x xs)) H) :=
  fun pins s σ H x y v u Q I rx ry ⟨e, h1, q⟩ => op_notIn_seq pins s σ H x y v u Q I rx ry ⟨D, xs, e, .inr (h H), h1, hf, q⟩
theorem op_inK {D : Addr} {xs : List V} (h : ∀ H : Hp, SqT X.K H D xs) (hf : xs.all flatV = true) : OpR X (compareOp .In) (fun x y H Q => y = .ref D ∧ flatV x = true ∧ Q (.bl (inV x xs)) H) :=
  fun pins s σ H x y v u Q I rx ry ⟨e, h1, q⟩ => op_in_seq pins s σ H x y v u Q I rx ry ⟨D, xs, e, .inr (h H), h1, hf, q⟩
/-- the same, said of the value -/
def RepOk (v : V) : Prop := v = .non ∨ ∃ i : Int, v = .int i ∧ i.natAbs.log2 < 1920
def repT : V → Str
  | .int i => toString i
  | _ => "None"
theorem call_repr_v : CallR X (.builtin "repr") (fun xs H Q => ∃ v : V, xs = [v] ∧ RepOk v ∧ Q (.str (repT v)) H) := by
  intro pins s σ H xs us Q I r h
  obtain ⟨v, rfl, hv, q⟩ := h
  rcases hv with rfl | ⟨i, rfl, hi⟩
  · exact call_repr_io pins s σ H _ us Q I r (.inr ⟨rfl, q⟩)
  · exact call_repr_io pins s σ H _ us Q I r (.inl ⟨i, rfl, hi, q⟩)
/-- the sum of a tuple of ints -/
def rSumT (K : PySem.W.Frag) : List V → Hp → VK → Prop := fun vs H Q => ∃ (a : Addr) (ns : List Int), vs = [V.ref a] ∧ SqT K H a (ns.map V.int) ∧ Q (.int ns.sum) H
theorem cr_sumT (hc : X.calm = true) : CallR X (.builtin "sum") (rSumT X.K) := by
  intro pins s σ H vs us Q I r h
  obtain ⟨a, ns, rfl, hs, q⟩ := h
  obtain ⟨its, rv, ht, _⟩ := I.tuple hs
  rw [Vals.ref1 r]
  have hi := rv.ints
  obtain ⟨xs, hx⟩ := hi.allInts.items
  have ht' : s.heap.IsTuple a its.toArray := ht
  have hn : numsOf its.toArray.toList = ns := by rw [show its.toArray.toList = its from rfl, hi.numsOf]
  rw [hx] at ht' hn
  rw [nums_intItems] at hn
  refine PySem.W.ktm_sumG (I.ok.hd hc) ht' fun h' tk t' hk => ?_
  rw [preSum_eq, List.take_of_length_le (by simp), hn]
  exact ⟨.int _, H, I.kept hk, ⟨_, rfl⟩, q⟩
end
section
variable {X : Cx}
/-- for NAME in zip(e, e2) of two lists: the pair that came first, T0, has to stay -/
def tForZN (K : PySem.W.Frag) (ta : TA) (g : TG) (tb : TS) : TS := fun D σ H => ta σ H fun vs H1 => ∃ a b xs ys, vs = [.ref a, .ref b] ∧ SqL K H1 a xs ∧ SqL K H1 b ys ∧ Stop (∀ T0 : Addr, H1 T0 = none → ∃ W : Nat → Nat → L2.St → Hp → Prop, (∃ m, W 0 m σ H1) ∧ ∀ i m σ H, W i m σ H →
  (0 < i → ∃ u, H T0 = some u) ∧ (((Itz K a b).stop i H ∧ D.nx σ H) ∨ ((Itz K a b).go i H ∧ ∃ N : L2.St → Hp → Prop, (∀ σ' H', N σ' H' → ∃ m', m' < m ∧ W (i + 1) m' σ' H') ∧ ∀ x H', (Itz K a b).yld i H x H' → (i = 0 → x = .ref T0) → g x σ H' fun σ2 H2 => tb { D with nx := N, ct := N, bk := D.nx } σ2 H2)))
/-- the objects of the iterator at turn i -/
def ZnAt (a b z TI TO i1 i2 T0 : Addr) (i : Nat) (h : Heap) : Prop := IsPair h TI (.ref i1) (.ref i2) ∧ (∃ x y, IsPair h TO x y) ∧ h.IsListIter i1 a i ∧ h.IsListIter i2 b i ∧ ((i = 0 ∧ IsZip h z TI TO .none) ∨ (0 < i ∧ ∃ f, PySem.IsZipHeld h z TI TO T0 f))
theorem ZnAt.objs {a b z TI TO i1 i2 T0 : Addr} {i : Nat} {h : Heap} (st : ZnAt a b z TI TO i1 i2 T0 i h) : ∀ c ∈ [z, TI, TO, i1, i2], ∃ o, h.get? c = some o ∧ ∀ v, o.data ≠ .cell v := fun c hc => by
  obtain ⟨hTI, ⟨x, y, hTO⟩, ⟨o1, e1, _, d1⟩, ⟨o2, e2, _, d2⟩, hz⟩ := st
  have hz' : ∃ o, h.get? z = some o ∧ ∀ v, o.data ≠ .cell v := by
    rcases hz with ⟨_, hz⟩ | ⟨_, f, hz⟩
    · exact ⟨_, hz, fun v q => nomatch q⟩
    · exact ⟨_, hz, fun v q => nomatch q⟩
  have e' : c = z ∨ c = TI ∨ c = TO ∨ c = i1 ∨ c = i2 := by simpa using hc
  rcases e' with q | q | q | q | q
  · rw [q]; exact hz'
  · rw [q]; exact ⟨_, hTI, fun v q => nomatch q⟩
  · rw [q]; exact ⟨_, hTO, fun v q => nomatch q⟩
  · rw [q]; exact ⟨o1, e1, fun v q => by rw [d1] at q; cases q⟩
  · rw [q]; exact ⟨o2, e2, fun v q => by rw [d2] at q; cases q⟩
theorem ZnAt.keep {a b z TI TO i1 i2 T0 : Addr} {i : Nat} {h h' : Heap} (st : ZnAt a b z TI TO i1 i2 T0 i h) (k : ∀ c ∈ [z, TI, TO, i1, i2], ∀ o, h.get? c = some o → h'.get? c = some o) : ZnAt a b z TI TO i1 i2 T0 i h' := by
  obtain ⟨hTI, ⟨x, y, hTO⟩, h1, h2, hz⟩ := st
  refine ⟨k TI (by simp) _ hTI, ⟨x, y, k TO (by simp) _ hTO⟩, h1.at fun o q => k i1 (by simp) o q, h2.at fun o q => k i2 (by simp) o q, ?_⟩
  rcases hz with ⟨e, hz⟩ | ⟨e, f, hz⟩
  · exact .inl ⟨e, k z (by simp) _ hz⟩
  · exact .inr ⟨e, f, k z (by simp) _ hz⟩
/-- the next pair -/
theorem zn_item {a b z TI TO i1 i2 T0 : Addr} (D : ZipApart z TI TO i1 i2 a b) {x : Str} {px : Pos} {E : Value → Shared → Prop} {i : Nat} {pins : List (Addr × Obj)} {s : Shared} {σ : L2.St} {H : Hp} (I : Inv X pins σ H s)
    (hf : ∀ c ∈ [z, TI, TO, i1, i2], FpOk X pins H c) (st : ZnAt a b z TI TO i1 i2 T0 i s.heap) (hs : i = 0 → s.heap.objs.size = T0) (hT : 0 < i → ∃ u, H T0 = some u) (hg : (Itz X.K a b).go i H) :
    wpAny (model X.prog X.w) X.A (pyNext (.ref z)) (fun r s1 => ∃ u, r = some u ∧ wpAny (model X.prog X.w) X.A (letOwnedTupleGo (.Name x px) (.ref z) u) (fun _ s2 => ∃ v H', Inv X pins σ H' s2 ∧ RelV v u ∧ ((Itz X.K a b).yld i H v H' ∧ (i = 0 → v = .ref T0)) ∧ ZnAt a b z TI TO i1 i2 T0 (i + 1) s2.heap ∧ ∀ c ∈ [z, TI, TO, i1, i2], H' c = none) E s1) E s := by
  obtain ⟨hTI, ⟨x0, y0, hTO⟩, h1, h2, hz⟩ := st
  obtain ⟨xs, ys, vx, vy, hqx, hqy, hx, hy⟩ := hg
  obtain ⟨its, rv, p, _⟩ := I.list hqx
  obtain ⟨its2, rv2, p2, _⟩ := I.list hqy
  obtain ⟨u, hu, ru⟩ := rv.get hx
  obtain ⟨u2, hu2, ru2⟩ := rv2.get hy
  have lt : ∀ {c : Addr}, c ∈ [z, TI, TO, i1, i2] → c < s.heap.objs.size := fun {c} hcm => by
    obtain ⟨o, e, _⟩ := (show ZnAt a b z TI TO i1 i2 T0 i s.heap from ⟨hTI, ⟨x0, y0, hTO⟩, h1, h2, hz⟩).objs c hcm
    exact Heap.lt_size e
  have fin : ∀ h' : Heap, IsPair h' s.heap.objs.size u u2 → (∀ c o, c ∉ [z, TI, TO, i1, i2] → s.heap.get? c = some o → h'.get? c = some o) →
      Inv X pins σ (upd H s.heap.objs.size (.tup [vx, vy])) { s with heap := h' } ∧ ((Itz X.K a b).yld i H (.ref s.heap.objs.size) (upd H s.heap.objs.size (.tup [vx, vy])) ∧ ∀ c ∈ [z, TI, TO, i1, i2], upd H s.heap.objs.size (.tup [vx, vy]) c = none) := fun h' hT hk => by
    have new : ObjOk X.prog X.w (upd H s.heap.objs.size (.tup [vx, vy])) h' s.heap.objs.size (.tup [vx, vy]) :=
      ⟨by show 2 ≤ sizeLine; decide, [u, u2], .cons ru (.cons ru2 .nil), ⟨_, hT, rfl, _, rfl⟩⟩
    refine ⟨I.turnedNew (t' := s.toks) (ch := [z, TI, TO, i1, i2]) (fun c o hb q => hk c o hb q) hf (Nat.le_refl _) new, ⟨_, vx, vy, rfl, I.hok.fresh (Nat.le_refl _), rfl, fun l hl => by rw [I.list_inj hl hqx]; exact hx, fun l hl => by rw [I.list_inj hl hqy]; exact hy⟩, fun c hcm => ?_⟩
    rw [upd_ne (Nat.ne_of_lt (lt hcm))]
    exact (hf c hcm).1
  rcases hz with ⟨rfl, hz⟩ | ⟨h0, f, hz⟩
  · refine wpAny_pyNext_zip_item D hz hTI hTO h1 h2 p.isList p2.isList (x := u) (y := u2) (by simpa using hu) (by simpa using hu2) fun h' z' TO' h1' h2' hT hsz hk => ?_
    obtain ⟨I1, y1, f1⟩ := fin h' hT fun c o hb q => hk c o (fun q' => hb (by simp [q'])) (fun q' => hb (by simp [q'])) (fun q' => hb (by simp [q'])) (fun q' => hb (by simp [q'])) q
    refine ⟨_, rfl, wpAny_pure ⟨.ref s.heap.objs.size, _, I1, rfl, ⟨y1, fun _ => by rw [hs rfl]⟩, ⟨hk _ _ D.TIz D.TITO D.TIi1 D.TIi2 hTI, ⟨_, _, TO'⟩, h1', h2', .inr ⟨Nat.succ_pos _, false, ?_⟩⟩, f1⟩⟩
    rw [← hs rfl]
    exact z'
  · obtain ⟨o0, ho0⟩ := hT h0
    obtain ⟨oT, hoT⟩ := objOk_get (I.hok T0 o0 ho0)
    refine PySem.wpAny_pyNext_zip_item_held D hz hoT hTI h1 h2 p.isList p2.isList (x := u) (y := u2) (by simpa using hu) (by simpa using hu2) fun h' z' h1' h2' hT hsz hk => ?_
    obtain ⟨I1, y1, f1⟩ := fin h' hT fun c o hb q => hk c o (fun q' => hb (by simp [q'])) (fun q' => hb (by simp [q'])) (fun q' => hb (by simp [q'])) q
    exact ⟨_, rfl, wpAny_pure ⟨.ref s.heap.objs.size, _, I1, rfl, ⟨y1, fun e => absurd e (by omega)⟩, ⟨hk _ _ D.TIz D.TIi1 D.TIi2 hTI, ⟨_, _, hk _ _ D.TOz D.TOi1 D.TOi2 hTO⟩, h1', h2', .inr ⟨Nat.succ_pos _, true, z'⟩⟩, f1⟩⟩
theorem zn_done {a b z TI TO i1 i2 T0 : Addr} (D : ZipApart z TI TO i1 i2 a b) {E : Value → Shared → Prop} {i : Nat} {pins : List (Addr × Obj)} {s : Shared} {σ : L2.St} {H : Hp} (hc : X.calm = true) (I : Inv X pins σ H s)
    (hf : ∀ c ∈ [z, TI, TO, i1, i2], FpOk X pins H c) (st : ZnAt a b z TI TO i1 i2 T0 i s.heap) (hT : 0 < i → ∃ u, H T0 = some u) (hg : (Itz X.K a b).stop i H) :
    wpAny (model X.prog X.w) X.A (pyNext (.ref z)) (fun r s1 => r = none ∧ Inv X pins σ H s1) E s := by
  obtain ⟨hTI, ⟨x0, y0, hTO⟩, h1, h2, hz⟩ := st
  obtain ⟨xs, ys, hqx, hqy, hend⟩ := hg
  obtain ⟨its, rv, p, _⟩ := I.list hqx
  obtain ⟨its2, rv2, p2, _⟩ := I.list hqy
  have l1 := rv.length
  have l2 := rv2.length
  have he : its.toArray[i]? = none ∨ its2.toArray[i]? = none := by
    rcases hend with q | q
    · exact .inl (by simp; omega)
    · exact .inr (by simp; omega)
  rcases hz with ⟨rfl, hz⟩ | ⟨h0, f, hz⟩
  · exact wpAny_pyNext_zip_end (I.ok.hd hc) D hz hTI hTO h1 h2 p.isList p2.isList he fun h' hk => ⟨rfl, I.turnedL (t' := s.toks) (ch := [z, TI, TO, i1, i2]) (fun c o hb q =>
      hk c o (fun q' => hb (by simp [q'])) (fun q' => hb (by simp [q'])) (fun q' => hb (by simp [q'])) (fun q' => hb (by simp [q'])) q) hf⟩
  · obtain ⟨o0, ho0⟩ := hT h0
    obtain ⟨oT, hoT⟩ := objOk_get (I.hok T0 o0 ho0)
    exact PySem.wpAny_pyNext_zip_end_held (I.ok.hd hc) D hz hoT hTI h1 h2 p.isList p2.isList he fun h' hk => ⟨rfl, I.turnedL (t' := s.toks) (ch := [z, TI, TO, i1, i2]) (fun c o hb q =>
      hk c o (fun q' => hb (by simp [q'])) (fun q' => hb (by simp [q'])) (fun q' => hb (by simp [q'])) q) hf⟩
theorem ps_forZN {x : Str} {px p pos cpos : Pos} {e e2 : Expr} {ta : TA} {g : TG} {tb : TS} {body : List Stmt} (hp : PassesOwn (model X.prog X.w) X.A X.env X.xe) (hc : X.calm = true) (hgl : Gl X "zip") (hm : X.mg "zip" = none) (ha : PA X [e, e2] ta)
    (hg : PG X (.Name x px) g) (hb : PSs X body tb)
    (hs : starEach [e, e2] X.env = (false, eval e X.env) :: starEach [e2] X.env := by rfl) (hpl : (backTo cpos (starEach [e2] X.env)).any (·.1) = false := by rfl)
    (hfs : ∀ x, foldedSetIterable (.Call (.Name "zip" p) [e, e2] [] cpos) X.env x = pure x := by intro _; rfl) : PS X (.For (.Name x px) (.Call (.Name "zip" p) [e, e2] [] cpos) body [] pos) (tForZN X.K ta g tb) := by
  refine ⟨fun pins s σ H D I h => ?_⟩
  refine wpAny_For ?_ hfs
  refine Call_ (ld_blt I hgl hm PyProof.Rows.boot_zip (PyProof.Rows.callWith_type1 (thn (ha.run cpos pins s σ H _ I h) fun us s1 ⟨vs, H1, I1, r1, q1⟩ => ?_) hs hpl))
  obtain ⟨a, b, xs, ys, ex, hqx, hqy, q⟩ := q1
  subst ex
  cases r1 with
  | cons r rr =>
    cases rr with
    | cons r' rr =>
      cases rr
      cases r
      cases r'
      obtain ⟨its, rv, p1, _⟩ := I1.list hqx
      obtain ⟨its2, rv2, p2, _⟩ := I1.list hqy
      have la : a < s1.heap.objs.size := p1.lt
      have lb : b < s1.heap.objs.size := p2.lt
      refine call_zip_2 p1.isList p2.isList fun h' hz hTI hTO h1 h2 hsz hk => wpAny_pyIter_zip hz ?_
      have I2 : Inv X pins σ H1 { s1 with heap := h' } := I1.kept (t' := s1.toks) hk
      obtain ⟨T0, hT0⟩ : ∃ T0, T0 = h'.objs.size := ⟨_, rfl⟩
      obtain ⟨W, ⟨m0, w0⟩, turn⟩ := q.h T0 (I2.hok.fresh (by rw [hT0]; exact Nat.le_refl _))
      have D := PySem.W.ktu_apart s1.heap.objs.size a b la lb
      obtain ⟨fp, hfp⟩ : ∃ fp, fp = [s1.heap.objs.size + 4, s1.heap.objs.size + 2, s1.heap.objs.size + 3, s1.heap.objs.size, s1.heap.objs.size + 1] := ⟨_, rfl⟩
      have f2 : ∀ c ∈ fp, FpOk X pins H1 c := fun c hcm => by
        rw [hfp] at hcm
        have e' : c = s1.heap.objs.size + 4 ∨ c = s1.heap.objs.size + 2 ∨ c = s1.heap.objs.size + 3 ∨ c = s1.heap.objs.size ∨ c = s1.heap.objs.size + 1 := by simpa using hcm
        have hle : s1.heap.objs.size ≤ c := by
          rcases e' with z | z | z | z | z
          · rw [z]; exact Nat.le_add_right _ _
          · rw [z]; exact Nat.le_add_right _ _
          · rw [z]; exact Nat.le_add_right _ _
          · rw [z]; exact Nat.le_refl _
          · rw [z]; exact Nat.le_add_right _ _
        exact I1.fpOk hle (I1.hok.fresh hle)
      have stat : ∀ {H' : Hp}, (∀ c ∈ fp, H' c = none) → ∀ c ∈ fp, FpOk X pins H' c := fun hn c hb => ⟨hn c hb, (f2 c hb).2⟩
      refine codeAny_forLoop_any (fun n s' => ∃ i σ' H', Inv X pins σ' H' s' ∧ ZnAt a b (s1.heap.objs.size + 4) (s1.heap.objs.size + 2) (s1.heap.objs.size + 3) s1.heap.objs.size (s1.heap.objs.size + 1) T0 i s'.heap ∧ (∀ c ∈ fp, H' c = none) ∧ W i n σ' H' ∧ (i = 0 → s'.heap.objs.size = T0)) ?_ m0
        ⟨0, σ, H1, I2, ⟨hTI, ⟨_, _, hTO⟩, h1, h2, .inl ⟨rfl, hz⟩⟩, fun c hb => (f2 c hb).1, w0, fun _ => hT0.symm⟩
      rintro n s3 ⟨i, σ3, H3, I3, st3, fr3, w3, hs0⟩
      obtain ⟨alive, tw⟩ := turn i n σ3 H3 w3
      rcases tw with ⟨stop, qn⟩ | ⟨go, N, hN, step⟩
      · refine wpAny_passesOwn hp (thn (zn_done D hc I3 (hfp ▸ stat fr3) st3 alive stop) fun r s4 ⟨hr, I4⟩ => ?_)
        subst hr
        exact wpAny_execs_nil ⟨σ3, H3, I4, qn⟩
      · refine wpAny_passesOwn hp (thn (zn_item (x := x) (px := px) D I3 (hfp ▸ stat fr3) st3 hs0 alive go) fun r s4 ⟨u, hr, h4⟩ => ?_)
        subst hr
        refine wpAny_passesOwn hp (thn h4 fun _ s5 ⟨v, H5, I5, r5, ⟨y5, y6⟩, st5, fr5⟩ => ?_)
        rw [← hfp] at fr5
        have ob5 := hfp ▸ st5.objs
        have I5' := I5.pinned (stat fr5) ob5
        refine wpAny_passesOwn hp (thn (hg.run _ s5 σ3 H5 v u _ I5' r5 (step v H5 y5 y6)) fun _ s6 ⟨σ6, H6, I6, q6⟩ => ?_)
        refine wpAny_passesOwn hp (thn (hb.run _ s6 σ6 H6 _ I6 q6) fun f s7 q7 => ?_)
        have again : ∀ {σ7 : L2.St} {H7 : Hp}, Inv X (pins ++ pinsAt fp s5.heap) σ7 H7 s7 → N σ7 H7 → ∃ m, m < n ∧ ∃ i σ' H', Inv X pins σ' H' s7 ∧ ZnAt a b (s1.heap.objs.size + 4) (s1.heap.objs.size + 2) (s1.heap.objs.size + 3) s1.heap.objs.size (s1.heap.objs.size + 1) T0 i s7.heap ∧ (∀ c ∈ fp, H' c = none) ∧ W i m σ' H' ∧ (i = 0 → s7.heap.objs.size = T0) := fun {σ7 H7} I7 n7 => by
          obtain ⟨m', hm, w7⟩ := hN σ7 H7 n7
          refine ⟨m', hm, i + 1, σ7, H7, I7.unpinned, st5.keep (hfp ▸ fun c hb o e => (I7.pin (c, o) (List.mem_append_right _ (List.mem_append_right _ (mem_pinsAt hb e)))).1), fun c hb => ?_, w7, fun z => absurd z (Nat.succ_ne_zero _)⟩
          obtain ⟨o, e, d⟩ := ob5 c hb
          exact (I7.pin (c, o) (List.mem_append_right _ (List.mem_append_right _ (mem_pinsAt hb e)))).2.1
        cases f with
        | next => obtain ⟨σ7, H7, I7, n7⟩ := q7; exact again I7 n7
        | cont => obtain ⟨σ7, H7, I7, n7⟩ := q7; exact again I7 n7
        | brk => obtain ⟨σ7, H7, I7, q7⟩ := q7; exact ⟨σ7, H7, I7.unpinned, q7⟩
        | ret v => obtain ⟨x7, σ7, H7, I7, r7, q7⟩ := q7; exact ⟨x7, σ7, H7, I7.unpinned, r7, q7⟩
/-- lists of one length that stay -/
theorem for_zipN {K : PySem.W.Frag} {a b : Addr} {xs ys : List V} {g : TG} {tb : TS} {D : L2.Ends} {σ : L2.St} {H : Hp} (hl : xs.length = ys.length) (Pv : Addr → Nat → L2.St → Hp → Prop) (h0 : ∀ T0, H T0 = none → Pv T0 0 σ H)
    (ha : ∀ T0 i σ H, i ≤ xs.length → Pv T0 i σ H → SqL K H a xs ∧ SqL K H b ys ∧ (0 < i → ∃ u, H T0 = some u))
    (hs : ∀ T0 i x y T σ H, xs[i]? = some x → ys[i]? = some y → Pv T0 i σ H → H T = none → (i = 0 → T = T0) → g (.ref T) σ (upd H T (.tup [x, y])) fun σ2 H2 => tb { D with nx := Pv T0 (i + 1), ct := Pv T0 (i + 1), bk := D.nx } σ2 H2) (hd : ∀ T0 σ H, Pv T0 xs.length σ H → D.nx σ H) :
    ∀ T0 : Addr, H T0 = none → ∃ W : Nat → Nat → L2.St → Hp → Prop, (∃ m, W 0 m σ H) ∧ ∀ i m σ H, W i m σ H →
      (0 < i → ∃ u, H T0 = some u) ∧ (((Itz K a b).stop i H ∧ D.nx σ H) ∨ ((Itz K a b).go i H ∧ ∃ N : L2.St → Hp → Prop, (∀ σ' H', N σ' H' → ∃ m', m' < m ∧ W (i + 1) m' σ' H') ∧ ∀ x H', (Itz K a b).yld i H x H' → (i = 0 → x = .ref T0) → g x σ H' fun σ2 H2 => tb { D with nx := N, ct := N, bk := D.nx } σ2 H2)) := by
  intro T0 hT0
  refine ⟨fun i m σ H => m = xs.length - i ∧ i ≤ xs.length ∧ Pv T0 i σ H, ⟨xs.length, by simp, Nat.zero_le _, h0 T0 hT0⟩, ?_⟩
  rintro i m σ H ⟨rfl, hi, p⟩
  obtain ⟨q1, q2, q3⟩ := ha T0 i σ H hi p
  refine ⟨q3, ?_⟩
  by_cases hlt : i < xs.length
  · refine .inr ⟨⟨xs, ys, xs[i], ys[i], q1, q2, by simp [hlt], by simp [hlt, ← hl]⟩, Pv T0 (i + 1), fun σ' H' p' => ⟨xs.length - (i + 1), by omega, rfl, hlt, p'⟩, fun x H' y z => ?_⟩
    obtain ⟨T, x', y', rfl, hT, rfl, hx, hy⟩ := y
    exact hs T0 i x' y' T σ H (hx xs q1) (hy ys q2) p hT (fun e => by have := z e; injection this)
  · have e : i = xs.length := by omega
    subst e
    exact .inl ⟨⟨xs, ys, q1, q2, .inl (Nat.le_refl _)⟩, hd T0 σ H p⟩
end
section
variable {X : Cx} {CX : CXT} {k : Nat} {f : Addr} {fd : FuncData} {ps ks : List Str} {sp : Sp} {E : L2.St → XK} {x : Str} {p pos : Pos} {kws : List Keyword} {tk : TA} {g : List Value → List Value → List Value} {gV : List V → List V → List V}
theorem run_fnkS {pins : List (Addr × Obj)} {σ : L2.St} {H : Hp} {s : Shared} {Q : VK} {us ws : List Value} {vs zs : List V} (F : FnOk X.prog X.w X.K X.mg X.base CX k f fd ps sp) (hr : Room k X.A) (hb : KBinds X.K fd ps ks g gV) (hx : PassesAt CX X σ (E σ))
    (I : Inv X pins σ H s) (r : Vals vs us) (rz : Vals zs ws) (h : sp (gV vs zs) H Q (E σ)) : wpAny (model X.prog X.w) X.A (call (.ref f) us (ks.zip ws)) (EP X pins σ Q) X.xe s := by
  have r2 := hb.rel r rz
  have hl : (g us ws).length = ps.length := by rw [← r2.length]; exact F.len _ _ _ _ h
  refine wpAny_call (codeAny_mono (F.run X.A X.stack s H ⟨us, ks.zip ws⟩ (g us ws) (gV vs zs) Q (E σ) hr I.env0 (hb.to s us ws I.kIn hl) r2 h) fun r s' hq => ?_)
  cases r with
  | error e => exact hx pins H s e s' I hq
  | ok fl =>
    cases fl with
    | ret u => exact I.after hq
    | next => exact False.elim hq
    | brk => exact False.elim hq
    | cont => exact False.elim hq
def tCallKS (sp : Sp) (gV : List V → List V → List V) (E : L2.St → XK) (tk : TA) : TE := fun σ H Q => tk σ H fun zs H2 => sp (gV [] zs) H2 Q (E σ)
/-- f(k=e, ..) that may raise, within a try -/
theorem pe_callKS (F : FnOk X.prog X.w X.K X.mg X.base CX k f fd ps sp) (hr : Room k X.A) (hg : Gl X x) (hm : X.mg x = some (.ref f)) (hk : PySem.W.keepIn X.K (.ref f) = true) (hb : KBinds X.K fd ps ks g gV) (hx : ∀ σ, PassesAt CX X σ (E σ))
    (hkw : PK X kws tk) (hall : (backToKw pos (keywordEach kws X.env)).all (·.1.isSome) = true := by rfl) (hks : (backToKw pos (keywordEach kws X.env)).filterMap (·.1) = ks := by rfl)
    (hdb : (x == ("__debug__" : Str)) = false := by decide)
    (hpl : ((backTo pos (starEach [] X.env)).any (·.1) || (backToKw pos (keywordEach kws X.env)).any (·.1.isNone)) = false := by rfl) :
    PE X (.Call (.Name x p) [] kws pos) (tCallKS sp gV E tk) := by
  refine ⟨fun pins s σ H Q I h => ?_⟩
  refine wpAny_Call_Name_kw (ld_glob I hg hm ?_ hdb)
  refine PySem.W.callWith_KW0 (h₀ := X.base) I.ok.mod.kin hk hall ?_ hpl
  refine thn (hkw.run pos pins s σ H _ I h) fun ws s2 ⟨zs, H2, I2, rz, q2⟩ => ⟨I2.kIn, ?_⟩
  rw [hks]
  exact run_fnkS F hr hb (hx σ) I2 .nil rz q2
end
end Hx

set_option Elab.async false
set_option linter.all false
set_option maxRecDepth 100000
set_option maxHeartbeats 4000000
/-! HsKL: list and len of a table of the module; repr of None, or of what shows -/
namespace Hx
open PySem PySem.Spec PyProof.Rows L2
theorem lit_pairs {P : Program} {w : World} : ∀ {es : List DictEntry} {xs : List Str}, tbLit es xs = true → Pairs (strKind P w) es (xs.zip (es.map fun e => e.val)) ∧ (xs.zip (es.map fun e => e.val)).map Prod.fst = xs
  | [], [], _ => ⟨.nil, rfl⟩
  | e :: es, x :: xs, h => by
    have h : (e.key.isStr x && tbLit es xs) = true := h
    rw [Bool.and_eq_true] at h
    obtain ⟨p, q⟩ := lit_pairs (P := P) (w := w) h.2
    exact ⟨.cons (by show Value.isStrOf x e.key = true; rw [← PySem.W.isStr_of]; exact h.1) rfl p, congrArg (x :: ·) q⟩
  | [], _ :: _, h => nomatch h
  | _ :: _, [], h => nomatch h
/-- a table whose names are just these, in this sequence -/
structure KSeq (K : PySem.W.Frag) (w : World) (D : Addr) (xs : List Str) : Prop where
  ex : ∃ es n, KDict K w D es n ∧ tbLit es.toList xs = true
  nd : xs.Nodup
  sz : xs.length ≤ 1000
theorem KSeq.at {K : PySem.W.Frag} {w : World} {P : Program} {D : Addr} {xs : List Str} (T : KSeq K w D xs) {h : Heap} (X : K.In h) : ∃ kvs ep, kvs.map Prod.fst = xs ∧ h.DictAt (strKind P w) D kvs ep ∧ (D == sysModules) = false := by
  obtain ⟨es, n, kd, hl⟩ := T.ex
  obtain ⟨p, q⟩ := lit_pairs (P := P) (w := w) hl
  refine ⟨_, n, q, ⟨_, es, X _ _ kd.at_, ⟨rfl, rfl, rfl⟩, rfl, fun e he => ?_, p, by have z := T.nd; rw [← q] at z; exact z⟩, kd.low⟩
  obtain ⟨x, t, e1, e2⟩ := kd.lit.all e (Array.mem_toList_iff.mpr he)
  exact ⟨x, by rw [e1]; exact strKind_is P w x t, e2⟩
section
variable {X : Cx} {D : Addr} {xs : List Str}
theorem call_listTab (hc : X.calm = true) (T : KSeq X.K X.w D xs) : CallR X (.type "list") (fun vs H Q => vs = [.ref D] ∧ ∀ p, H p = none → Q (.ref p) (upd H p (.lst (xs.map V.str)))) := by
  intro pins s σ H vs us Q I r q
  obtain ⟨ex, q⟩ := q
  subst ex
  obtain ⟨u, eu, rx⟩ := vals1 r
  subst eu
  cases rx
  obtain ⟨kvs, ep, ek, hat, lo⟩ := T.at (P := X.prog) I.kIn
  have hl : kvs.length = xs.length := by rw [← ek, List.length_map]
  have hsz : kvs.length ≤ sizeLine := size_le (by have := T.sz; omega)
  refine PySem.W.kdl_call (PySem.W.kdl_dict (knd := strKind X.prog X.w) (kvs := kvs) (ep := ep) lo) (I.ok.hd hc) hat hsz fun g tk acc c0 kp hD hacc => ?_
  have hv : Vals (xs.map V.str) acc.toList := by
    refine vals_of_idx _ _ (by rw [Array.length_toList, hacc.1, List.length_map, hl]) fun j v e => ?_
    obtain ⟨k, x, e1, e2⟩ := hacc.2 j v (by rw [← Array.getElem?_toList]; exact e)
    obtain ⟨t, rfl⟩ := Value.isStrOf_shape (show Value.isStrOf k v = true from e2)
    refine ⟨.str k, ?_, t, rfl⟩
    rw [List.getElem?_map, ← ek, List.getElem?_map, e1]; rfl
  refine ⟨.ref s.heap.objs.size, upd H s.heap.objs.size (.lst (xs.map V.str)), I.laid (t' := tk) kp (Nat.le_refl _)
    (show ObjOk X.prog X.w _ _ _ (.lst (xs.map V.str)) from ⟨by rw [List.length_map, ← hl]; exact hsz, acc.toList, c0, hv, by rw [Array.toArray_toList]; exact hD⟩), rfl, q _ (I.hok.fresh (Nat.le_refl _))⟩
theorem call_lenTab (T : KSeq X.K X.w D xs) : CallR X (.builtin "len") (fun vs H Q => vs = [.ref D] ∧ Q (.int (xs.length : Nat)) H) := by
  intro pins s σ H vs us Q I r q
  obtain ⟨ex, q⟩ := q
  subst ex
  obtain ⟨u, eu, rx⟩ := vals1 r
  subst eu
  cases rx
  obtain ⟨kvs, ep, ek, hat, lo⟩ := T.at (P := X.prog) I.kIn
  have hl : kvs.length = xs.length := by rw [← ek, List.length_map]
  have hz := T.sz
  refine call_len_dict lo hat.dictOf (by omega) ?_
  rw [hl]
  exact ⟨.int (xs.length : Nat), H, I.tok _, ⟨_, rfl⟩, q⟩
theorem call_reprA (hg : X.A.guards = some []) (hr : Room 0 X.A) : CallR X (.builtin "repr") (fun xs H Q => ∃ (v : V) (d : PyData), xs = [v] ∧ Dp X.K H v d ∧ (d = .none ∨ ((∃ ds, d = .tuple ds) ∧ d.showable = true ∧ d.hasDict = false ∧ d.depth ≤ 64 ∧ d.shown.length ≤ sizeLine)) ∧ Q (.str d.shown) H) := by
  intro pins s σ H vs us Q I r q
  obtain ⟨v, d, rfl, hd, ok, q⟩ := q
  rcases ok with rfl | ⟨⟨ds, rfl⟩, o1, o2, o3, o4⟩
  · cases hd
    exact call_repr_io pins s σ H _ us Q I r (.inr ⟨rfl, by rw [PyData.shown] at q; exact q⟩)
  · cases hd with
    | @tup a ws _ h1 h2 => exact call_reprG hg hr pins s σ H _ us Q I r ⟨a, _, rfl, .tup h1 h2, o1, o2, o3, o4, q⟩
end
end Hx

set_option Elab.async false
set_option linter.all false
set_option maxRecDepth 100000
set_option maxHeartbeats 8000000

namespace K15
open PySem PySem.Spec PyProof.Rows L2 Hx
def top (i : Nat) : Stmt := PySem.Challenge.pw_orderlycore_k15_whole_words_and_instruct.main.body.getD i (.Pass ⟨0, 0, 0, 0⟩)
abbrev s_is_integer : Stmt := top 7
theorem sc_is_integer : FnScope ["value"] ["value"] (defScope s_is_integer) := ⟨rfl, rfl, rfl, by decide +kernel, rfl, by decide +kernel, by decide +kernel⟩
abbrev s_is_between : Stmt := top 8
theorem sc_is_between : FnScope ["value", "least", "most"] ["value", "least", "most"] (defScope s_is_between) := ⟨rfl, rfl, rfl, by decide +kernel, rfl, by decide +kernel, by decide +kernel⟩
abbrev s_is_word : Stmt := top 12
theorem sc_is_word : FnScope ["value"] ["value"] (defScope s_is_word) := ⟨rfl, rfl, rfl, by decide +kernel, rfl, by decide +kernel, by decide +kernel⟩
abbrev s_need_word : Stmt := top 13
theorem sc_need_word : FnScope ["value"] ["value"] (defScope s_need_word) := ⟨rfl, rfl, rfl, by decide +kernel, rfl, by decide +kernel, by decide +kernel⟩
abbrev s_need_bits : Stmt := top 14
theorem sc_need_bits : FnScope ["word", "low", "many"] ["word", "low", "many"] (defScope s_need_bits) := ⟨rfl, rfl, rfl, by decide +kernel, rfl, by decide +kernel, by decide +kernel⟩
abbrev s_bits : Stmt := top 15
theorem sc_bits : FnScope ["word", "low", "many"] ["word", "low", "many"] (defScope s_bits) := ⟨rfl, rfl, rfl, by decide +kernel, rfl, by decide +kernel, by decide +kernel⟩
abbrev s_operations : Stmt := top 21
theorem sc_operations : FnScope [] [] (defScope s_operations) := ⟨rfl, rfl, rfl, by decide +kernel, rfl, by decide +kernel, by decide +kernel⟩
abbrev s_is_operation : Stmt := top 22
theorem sc_is_operation : FnScope ["value"] ["value"] (defScope s_is_operation) := ⟨rfl, rfl, rfl, by decide +kernel, rfl, by decide +kernel, by decide +kernel⟩
abbrev s_is_instruction : Stmt := top 23
theorem sc_is_instruction : FnScope ["value", "parts", "number", "part"] ["value"] (defScope s_is_instruction) := ⟨rfl, rfl, rfl, by decide +kernel, rfl, by decide +kernel, by decide +kernel⟩
abbrev s_need_instruction : Stmt := top 24
theorem sc_need_instruction : FnScope ["value"] ["value"] (defScope s_need_instruction) := ⟨rfl, rfl, rfl, by decide +kernel, rfl, by decide +kernel, by decide +kernel⟩
abbrev s_encoded : Stmt := top 25
theorem sc_encoded : FnScope ["instruction"] ["instruction"] (defScope s_encoded) := ⟨rfl, rfl, rfl, by decide +kernel, rfl, by decide +kernel, by decide +kernel⟩
abbrev s_decoded : Stmt := top 26
theorem sc_decoded : FnScope ["word", "number", "name", "numbers", "found", "part"] ["word"] (defScope s_decoded) := ⟨rfl, rfl, rfl, by decide +kernel, rfl, by decide +kernel, by decide +kernel⟩
abbrev s__word_of : Stmt := top 27
theorem sc__word_of : FnScope ["instruction", "number", "form", "stands", "one", "part"] ["instruction"] (defScope s__word_of) := ⟨rfl, rfl, rfl, by decide +kernel, rfl, by decide +kernel, by decide +kernel⟩
abbrev s__form_of : Stmt := top 28
theorem sc__form_of : FnScope ["name"] ["name"] (defScope s__form_of) := ⟨rfl, rfl, rfl, by decide +kernel, rfl, by decide +kernel, by decide +kernel⟩
abbrev s__fits : Stmt := top 29
theorem sc__fits : FnScope ["number", "part", "least", "greatest"] ["number", "part"] (defScope s__fits) := ⟨rfl, rfl, rfl, by decide +kernel, rfl, by decide +kernel, by decide +kernel⟩
abbrev s__stands : Stmt := top 30
theorem sc__stands : FnScope ["number", "part", "low", "many"] ["number", "part"] (defScope s__stands) := ⟨rfl, rfl, rfl, by decide +kernel, rfl, by decide +kernel, by decide +kernel⟩
abbrev s__number_at : Stmt := top 31
theorem sc__number_at : FnScope ["word", "part", "low", "many", "least", "greatest", "number"] ["word", "part"] (defScope s__number_at) := ⟨rfl, rfl, rfl, by decide +kernel, rfl, by decide +kernel, by decide +kernel⟩
abbrev s_Lpot : Stmt := top 33
theorem sc_Lpot : FnScope ["_law_script", "_law_k", "_law_cell"] ["_law_script", "_law_k"] (defScope s_Lpot) := ⟨rfl, rfl, rfl, by decide +kernel, rfl, by decide +kernel, by decide +kernel⟩
abbrev s_Ldraw : Stmt := top 34
theorem sc_Ldraw : FnScope ["_law_pot_here", "_law_size", "_law_digit"] ["_law_pot_here", "_law_size"] (defScope s_Ldraw) := ⟨rfl, rfl, rfl, by decide +kernel, rfl, by decide +kernel, by decide +kernel⟩
abbrev s_Lpick : Stmt := top 35
theorem sc_Lpick : FnScope ["_law_pot_here", "_law_some"] ["_law_pot_here", "_law_some"] (defScope s_Lpick) := ⟨rfl, rfl, rfl, by decide +kernel, rfl, by decide +kernel, by decide +kernel⟩
abbrev s_Lnames : Stmt := top 36
theorem sc_Lnames : FnScope ["_law_first"] [] (defScope s_Lnames) := ⟨rfl, rfl, rfl, by decide +kernel, rfl, by decide +kernel, by decide +kernel⟩
abbrev s_Lform : Stmt := top 37
theorem sc_Lform : FnScope ["_law_name", "_law_at", "_law_forms", "_law_most", "_law_form_here"] ["_law_name"] (defScope s_Lform) := ⟨rfl, rfl, rfl, by decide +kernel, rfl, by decide +kernel, by decide +kernel⟩
abbrev s_Lshape : Stmt := top 38
theorem sc_Lshape : FnScope ["_law_form_here"] ["_law_form_here"] (defScope s_Lshape) := ⟨rfl, rfl, rfl, by decide +kernel, rfl, by decide +kernel, by decide +kernel⟩
abbrev s_Lword : Stmt := top 39
theorem sc_Lword : FnScope ["_law_told_here", "_law_form_here", "_law_word_here"] ["_law_told_here"] (defScope s_Lword) := ⟨rfl, rfl, rfl, by decide +kernel, rfl, by decide +kernel, by decide +kernel⟩
abbrev s_Ltold : Stmt := top 40
theorem sc_Ltold : FnScope ["_law_word_here", "_law_at", "_law_low", "_law_name", "_law_form_here", "_law_first", "_law_last"] ["_law_word_here"] (defScope s_Ltold) := ⟨rfl, rfl, rfl, by decide +kernel, rfl, by decide +kernel, by decide +kernel⟩
abbrev s_Ldrawn : Stmt := top 41
theorem sc_Ldrawn : FnScope ["_law_pot_here", "_law_name", "_law_registers", "_law_least", "_law_most", "_law_parts", "_law_turn", "_law_number"] ["_law_pot_here"] (defScope s_Ldrawn) := ⟨rfl, rfl, rfl, by decide +kernel, rfl, by decide +kernel, by decide +kernel⟩
abbrev s_Lword_right : Stmt := top 42
theorem sc_Lword_right : FnScope ["_law_word_here", "_law_due", "_law_told_here"] ["_law_word_here"] (defScope s_Lword_right) := ⟨rfl, rfl, rfl, by decide +kernel, rfl, by decide +kernel, by decide +kernel⟩
abbrev s_Ltold_right : Stmt := top 43
theorem sc_Ltold_right : FnScope ["_law_told_here", "_law_word_here"] ["_law_told_here"] (defScope s_Ltold_right) := ⟨rfl, rfl, rfl, by decide +kernel, rfl, by decide +kernel, by decide +kernel⟩
abbrev s_Lends : Stmt := top 44
theorem sc_Lends : FnScope ["_law_name", "_law_registers", "_law_least", "_law_most", "_law_low", "_law_high"] ["_law_name"] (defScope s_Lends) := ⟨rfl, rfl, rfl, by decide +kernel, rfl, by decide +kernel, by decide +kernel⟩
abbrev s_law : Stmt := top 45
theorem sc_law : FnScope ["_law_script", "_law_pot_here", "_law_names_here", "_law_turn", "_law_told_here", "_law_more"] ["_law_script"] (defScope s_law) := ⟨rfl, rfl, rfl, by decide +kernel, rfl, by decide +kernel, by decide +kernel⟩
structure Txt (w : World) (K : PySem.W.Frag) (mg : Str → Option Value) where
  f_is_integer : Addr
  fd_is_integer : FuncData
  F_is_integer : Fun K "is_integer" "is_integer" s_is_integer f_is_integer fd_is_integer
  g_is_integer : mg "is_integer" = some (.ref f_is_integer)
  b_is_integer : Binds K fd_is_integer ["value"] []
  f_is_between : Addr
  fd_is_between : FuncData
  F_is_between : Fun K "is_between" "is_between" s_is_between f_is_between fd_is_between
  g_is_between : mg "is_between" = some (.ref f_is_between)
  b_is_between : Binds K fd_is_between ["value", "least", "most"] []
  f_is_word : Addr
  fd_is_word : FuncData
  F_is_word : Fun K "is_word" "is_word" s_is_word f_is_word fd_is_word
  g_is_word : mg "is_word" = some (.ref f_is_word)
  b_is_word : Binds K fd_is_word ["value"] []
  f_need_word : Addr
  fd_need_word : FuncData
  F_need_word : Fun K "need_word" "need_word" s_need_word f_need_word fd_need_word
  g_need_word : mg "need_word" = some (.ref f_need_word)
  b_need_word : Binds K fd_need_word ["value"] []
  f_need_bits : Addr
  fd_need_bits : FuncData
  F_need_bits : Fun K "need_bits" "need_bits" s_need_bits f_need_bits fd_need_bits
  g_need_bits : mg "need_bits" = some (.ref f_need_bits)
  b_need_bits : Binds K fd_need_bits ["word", "low", "many"] []
  f_bits : Addr
  fd_bits : FuncData
  F_bits : Fun K "bits" "bits" s_bits f_bits fd_bits
  g_bits : mg "bits" = some (.ref f_bits)
  b_bits : Binds K fd_bits ["word", "low", "many"] []
  f_operations : Addr
  fd_operations : FuncData
  F_operations : Fun K "operations" "operations" s_operations f_operations fd_operations
  g_operations : mg "operations" = some (.ref f_operations)
  b_operations : Binds K fd_operations [] []
  f_is_operation : Addr
  fd_is_operation : FuncData
  F_is_operation : Fun K "is_operation" "is_operation" s_is_operation f_is_operation fd_is_operation
  g_is_operation : mg "is_operation" = some (.ref f_is_operation)
  b_is_operation : Binds K fd_is_operation ["value"] []
  f_is_instruction : Addr
  fd_is_instruction : FuncData
  F_is_instruction : Fun K "is_instruction" "is_instruction" s_is_instruction f_is_instruction fd_is_instruction
  g_is_instruction : mg "is_instruction" = some (.ref f_is_instruction)
  b_is_instruction : Binds K fd_is_instruction ["value"] []
  kb_is_instruction : KBinds K fd_is_instruction ["value"] ["value"] kwG kwG
  f_need_instruction : Addr
  fd_need_instruction : FuncData
  F_need_instruction : Fun K "need_instruction" "need_instruction" s_need_instruction f_need_instruction fd_need_instruction
  g_need_instruction : mg "need_instruction" = some (.ref f_need_instruction)
  b_need_instruction : Binds K fd_need_instruction ["value"] []
  f_encoded : Addr
  fd_encoded : FuncData
  F_encoded : Fun K "encoded" "encoded" s_encoded f_encoded fd_encoded
  g_encoded : mg "encoded" = some (.ref f_encoded)
  b_encoded : Binds K fd_encoded ["instruction"] []
  kb_encoded : KBinds K fd_encoded ["instruction"] ["instruction"] kwG kwG
  f_decoded : Addr
  fd_decoded : FuncData
  F_decoded : Fun K "decoded" "decoded" s_decoded f_decoded fd_decoded
  g_decoded : mg "decoded" = some (.ref f_decoded)
  b_decoded : Binds K fd_decoded ["word"] []
  kb_decoded : KBinds K fd_decoded ["word"] ["word"] kwG kwG
  f__word_of : Addr
  fd__word_of : FuncData
  F__word_of : Fun K "_word_of" "_word_of" s__word_of f__word_of fd__word_of
  g__word_of : mg "_word_of" = some (.ref f__word_of)
  b__word_of : Binds K fd__word_of ["instruction"] []
  f__form_of : Addr
  fd__form_of : FuncData
  F__form_of : Fun K "_form_of" "_form_of" s__form_of f__form_of fd__form_of
  g__form_of : mg "_form_of" = some (.ref f__form_of)
  b__form_of : Binds K fd__form_of ["name"] []
  f__fits : Addr
  fd__fits : FuncData
  F__fits : Fun K "_fits" "_fits" s__fits f__fits fd__fits
  g__fits : mg "_fits" = some (.ref f__fits)
  b__fits : Binds K fd__fits ["number", "part"] []
  f__stands : Addr
  fd__stands : FuncData
  F__stands : Fun K "_stands" "_stands" s__stands f__stands fd__stands
  g__stands : mg "_stands" = some (.ref f__stands)
  b__stands : Binds K fd__stands ["number", "part"] []
  f__number_at : Addr
  fd__number_at : FuncData
  F__number_at : Fun K "_number_at" "_number_at" s__number_at f__number_at fd__number_at
  g__number_at : mg "_number_at" = some (.ref f__number_at)
  b__number_at : Binds K fd__number_at ["word", "part"] []
  f_Lpot : Addr
  fd_Lpot : FuncData
  F_Lpot : Fun K "_law_pot" "_law_pot" s_Lpot f_Lpot fd_Lpot
  g_Lpot : mg "_law_pot" = some (.ref f_Lpot)
  b_Lpot : Binds K fd_Lpot ["_law_script", "_law_k"] []
  f_Ldraw : Addr
  fd_Ldraw : FuncData
  F_Ldraw : Fun K "_law_draw" "_law_draw" s_Ldraw f_Ldraw fd_Ldraw
  g_Ldraw : mg "_law_draw" = some (.ref f_Ldraw)
  b_Ldraw : Binds K fd_Ldraw ["_law_pot_here", "_law_size"] []
  f_Lpick : Addr
  fd_Lpick : FuncData
  F_Lpick : Fun K "_law_pick" "_law_pick" s_Lpick f_Lpick fd_Lpick
  g_Lpick : mg "_law_pick" = some (.ref f_Lpick)
  b_Lpick : Binds K fd_Lpick ["_law_pot_here", "_law_some"] []
  f_Lnames : Addr
  fd_Lnames : FuncData
  F_Lnames : Fun K "_law_names" "_law_names" s_Lnames f_Lnames fd_Lnames
  g_Lnames : mg "_law_names" = some (.ref f_Lnames)
  b_Lnames : Binds K fd_Lnames [] []
  f_Lform : Addr
  fd_Lform : FuncData
  F_Lform : Fun K "_law_form" "_law_form" s_Lform f_Lform fd_Lform
  g_Lform : mg "_law_form" = some (.ref f_Lform)
  b_Lform : Binds K fd_Lform ["_law_name"] []
  f_Lshape : Addr
  fd_Lshape : FuncData
  F_Lshape : Fun K "_law_shape" "_law_shape" s_Lshape f_Lshape fd_Lshape
  g_Lshape : mg "_law_shape" = some (.ref f_Lshape)
  b_Lshape : Binds K fd_Lshape ["_law_form_here"] []
  f_Lword : Addr
  fd_Lword : FuncData
  F_Lword : Fun K "_law_word" "_law_word" s_Lword f_Lword fd_Lword
  g_Lword : mg "_law_word" = some (.ref f_Lword)
  b_Lword : Binds K fd_Lword ["_law_told_here"] []
  f_Ltold : Addr
  fd_Ltold : FuncData
  F_Ltold : Fun K "_law_told" "_law_told" s_Ltold f_Ltold fd_Ltold
  g_Ltold : mg "_law_told" = some (.ref f_Ltold)
  b_Ltold : Binds K fd_Ltold ["_law_word_here"] []
  f_Ldrawn : Addr
  fd_Ldrawn : FuncData
  F_Ldrawn : Fun K "_law_drawn" "_law_drawn" s_Ldrawn f_Ldrawn fd_Ldrawn
  g_Ldrawn : mg "_law_drawn" = some (.ref f_Ldrawn)
  b_Ldrawn : Binds K fd_Ldrawn ["_law_pot_here"] []
  f_Lword_right : Addr
  fd_Lword_right : FuncData
  F_Lword_right : Fun K "_law_word_right" "_law_word_right" s_Lword_right f_Lword_right fd_Lword_right
  g_Lword_right : mg "_law_word_right" = some (.ref f_Lword_right)
  b_Lword_right : Binds K fd_Lword_right ["_law_word_here"] []
  f_Ltold_right : Addr
  fd_Ltold_right : FuncData
  F_Ltold_right : Fun K "_law_told_right" "_law_told_right" s_Ltold_right f_Ltold_right fd_Ltold_right
  g_Ltold_right : mg "_law_told_right" = some (.ref f_Ltold_right)
  b_Ltold_right : Binds K fd_Ltold_right ["_law_told_here"] []
  f_Lends : Addr
  fd_Lends : FuncData
  F_Lends : Fun K "_law_ends" "_law_ends" s_Lends f_Lends fd_Lends
  g_Lends : mg "_law_ends" = some (.ref f_Lends)
  b_Lends : Binds K fd_Lends ["_law_name"] []
  f_law : Addr
  fd_law : FuncData
  F_law : Fun K "law" "law" s_law f_law fd_law
  g_law : mg "law" = some (.ref f_law)
  b_law : Binds K fd_law ["_law_script"] []
  m_abs : mg "abs" = none
  m_all : mg "all" = none
  m_bool : mg "bool" = none
  m_divmod : mg "divmod" = none
  m_int : mg "int" = none
  m_isinstance : mg "isinstance" = none
  m_len : mg "len" = none
  m_list : mg "list" = none
  m_max : mg "max" = none
  m_range : mg "range" = none
  m_repr : mg "repr" = none
  m_str : mg "str" = none
  m_sum : mg "sum" = none
  m_tuple : mg "tuple" = none
  m_zip : mg "zip" = none
  c__WORD_BITS : ∃ t, mg "_WORD_BITS" = some (.int 16 t)
  c_WORDS : ∃ t, mg "WORDS" = some (.int 65536 t)
  c__NUMBER_BIT : ∃ t, mg "_NUMBER_BIT" = some (.int 11 t)
  D_op : Addr
  g_op : mg "_OPERATIONS" = some (.ref D_op)
  t_op : KTab K w D_op opT []
  D_fo : Addr
  g_fo : mg "_FORMS" = some (.ref D_fo)
  t_fo : KTab K w D_fo foT []
  D_pa : Addr
  g_pa : mg "_PARTS" = some (.ref D_pa)
  t_pa : KTab K w D_pa paT []
  q_op : KSeq K w D_op nmL
end K15

set_option Elab.async false
set_option linter.all false
set_option maxRecDepth 100000
set_option maxHeartbeats 8000000

namespace K15
open PySem PySem.Spec PyProof.Rows L2 Hx 
local macro_rules | `(tactic| walk_at "sm") => `(tactic| repeat' (first | assumption | apply Hx.Same.upd | exact L2.Same.refl _ | apply same_trans'))
local macro_rules | `(tactic| walk_at "hp") => `(tactic| repeat' (first | assumption | exact upd_same | apply old_upd | apply same_at))
local macro_rules | `(tactic| walk_at "rd") => `(tactic| repeat' (first | rfl | apply Exists.intro | apply And.intro | refine iteT ?_ | refine iteF ?_ | exact upd_same | exact SqL.of (by assumption) | exact SqL.of upd_same | exact SqT.of upd_same | exact SqT.of (by assumption) | ((with_reducible show (_ : Int) < _); omega) | ((with_reducible show (_ : Int) ≤ _); omega) | (show (_ : Prop); assumption) | exact Or.inl ⟨_, by assumption, rfl⟩ | exact Or.inl ⟨rfl, _, SqL.of (by assumption)⟩ | exact Or.inl ⟨rfl, _, SqL.of upd_same⟩ | apply old_upd | apply Hx.SqL.new | apply tyl_new | apply Pot.new | exact same_at (by assumption) (by assumption) | exact Or.inl (SqL.of (by assumption)) | exact Or.inl (by assumption) | exact Or.inl (SqL.of upd_same) | exact size_le (Nat.le_of_ble_eq_true rfl) | exact Nat.le_of_ble_eq_true rfl | exact True.intro | exact Or.inl rfl | exact Or.inr rfl | (show (_ : Prop); omega) | (show (_ : Prop); dsimp only; omega) | exact mulw64 (by omega) (by omega) | exact mulw64 (by (try dsimp only); omega) (by (try dsimp only); omega)))
local macro_rules | `(tactic| walk_at "mem") => `(tactic| ((repeat (first | exact List.Mem.head _ | apply List.Mem.tail | fail)); done))
local macro_rules | `(tactic| walk_at "setat") => `(tactic| ((repeat (first | (with_reducible exact At.head) | (with_reducible apply At.tail) | (with_reducible apply At.app) | fail)); done))
set_option hygiene false in
local macro_rules | `(tactic| walk_at "dv") => `(tactic| ((repeat' (first | exact Dv.nil | exact Dv.of (by walk_at "mem") | exact Dv.ints _ | exact Dv1.of (by walk_at "mem") | exact Dv1.int _ | exact Dv1.non | exact Dv1.bl _ | exact Dv1.str _ | (with_reducible apply Dv.cons) | refine Dv1.tup (by walk_at "mem") ?_ | refine Dv1.lst (by walk_at "mem") ?_ | (with_reducible apply Dv.app) | fail)); done))
local macro_rules | `(tactic| walk_at "ft") => `(tactic| (first | (with_reducible exact Ft.refl) | ((with_reducible apply Ft.toL); focus walk_at "dv") | ((with_reducible apply Ft.toS); focus assumption) | (with_reducible apply Ft.lst) | (with_reducible apply Ft.Le) | (with_reducible apply Ft.dK) | (with_reducible apply Ft.De) | (with_reducible apply Ft.ins) | (with_reducible apply Ft.toL) | (with_reducible apply Ft.toS) | (with_reducible apply Ft.toD) | fail))
local macro_rules | `(tactic| walk_at "sbL") => `(tactic| repeat' (first | (with_reducible exact Sb.refl _) | exact Sb.nil | (with_reducible apply Sb.cons) | (with_reducible apply Sb.app) | (with_reducible exact Pk.one) | (with_reducible exact Pk.here) | (with_reducible exact Pk.all) | (with_reducible apply Pk.skip1) | (with_reducible apply Pk.skipB) | (with_reducible apply Sb.skip) | (with_reducible apply Sb.skipB) | ((with_reducible show Ft _ _ _ _); walk_at "ft") | ((with_reducible show (_ : List _) = _); (first | rfl | (simp [List.map_set, List.map_append]; done) | fail)) | fail))
local macro_rules | `(tactic| walk_at "sb") => `(tactic| ((walk_at "sbL"); done))
local macro_rules | `(tactic| walk_at "ps") => `(tactic| ((repeat' (first | (with_reducible exact Ps.refl) | exact Ps.nil | (with_reducible apply Ps.cons) | exact List.Mem.head _ | apply List.Mem.tail | (with_reducible apply Ps.skip) | fail)); done))
set_option hygiene false in
local macro_rules | `(tactic| walk_at "at") => `(tactic| first | assumption | exact Own.raw hO (by walk_at "mem") | exact Own.ptup hO (by walk_at "mem") | exact Own.plst hO (by walk_at "mem") | fail)
set_option hygiene false in
local macro_rules | `(tactic| walk_at "st") => `(tactic| (rw [upd_mkO hO]; generalize e : updX _ _ _ = H1; (first | ((apply Own.cset hO e); (focus walk_at "setat"); (try clear hO e); intro hO) | ((apply Own.cnewT hO e); (focus assumption); (try clear hO e); intro hO) | ((apply Own.cnew hO e); (focus assumption); (try clear hO e); intro hO) | fail)))
set_option hygiene false in
local macro_rules | `(tactic| walk_at "mk") => `(tactic| (intro p1 p2 f1 f2 f3; rw [upd_mkO hO]; generalize e : upd (updX _ _ _) _ _ = H1; apply Own.cmake hO f1 f2 f3 e; (try clear hO e); intro hO))
set_option hygiene false in
local macro_rules | `(tactic| walk_at "own") => `(tactic| (first | ((apply Own.sub hO); (focus walk_at "sb"); (focus walk_at "ps")) | ((apply Own.sub hF); (focus walk_at "sb"); (focus walk_at "ps")) | fail))
set_option hygiene false in
local macro_rules | `(tactic| walk_at "fin") => `(tactic| (refine Own.sub hO ?_ (by walk_at "ps"); walk_at "sbL"))
set_option hygiene false in
local macro_rules | `(tactic| walk_at "g1") => `(tactic| (first
 | ((with_reducible show (_ : Option HO) = _); walk_at "at")
 | ((with_reducible show (_ : Int) < _); omega) | ((with_reducible show (_ : Int) ≤ _); omega)
 | ((with_reducible show (_ : Nat) < _); (first | assumption | exact Nat.le_of_ble_eq_true rfl | exact size_lt (Nat.le_of_ble_eq_true rfl) | omega | (simp; done) | (simp; omega) | fail))
 | ((with_reducible show (_ : Nat) ≤ _); (first | assumption | exact Nat.le_of_ble_eq_true rfl | exact size_le (Nat.le_of_ble_eq_true rfl) | omega | (simp; done) | (simp; omega) | fail))
 | ((with_reducible show (_ : Pf) ∈ _); (first | assumption | (focus walk_at "mem") | ((repeat (with_reducible apply List.mem_cons_of_mem)); assumption) | fail))
 | ((with_reducible show Own _ _ _ _); (first | walk_at "own" | (walk_at "st"; walk_at "own") | fail))
 | ((with_reducible show SqL _ _ _ _); (first | assumption | exact SqL.of (by walk_at "at") | fail))
 | ((with_reducible show SqT _ _ _ _); (first | assumption | exact hO.psq (by walk_at "mem") | exact hO.psq (by assumption) | exact SqT.of (by walk_at "at") | fail))
   | ((with_reducible show V.ref _ = V.ref _); (first | rfl | fail))
 | ((with_reducible show DGet _ _ _ _); (first | exact DGet.ki (by walk_at "at") (by assumption) | exact DGet.kiF (by walk_at "at") (by assumption) | fail))
 | ((with_reducible show DPut _ _ _ _ _); exact DPut.ki (by walk_at "at") (by assumption))
 | ((with_reducible show Rd _ _ _); (first | exact Or.inl (by walk_at "at") | exact Or.inr ⟨_, by walk_at "at"⟩ | fail))
 | ((with_reducible show (∃ _ : List (Key × V), _) ∨ _); refine Or.inl ⟨_, by walk_at "at", ?_⟩)
 | ((with_reducible show Dv _ _ _ _); focus walk_at "dv") | ((with_reducible show Dv1 _ _ _ _); focus walk_at "dv")
 | ((with_reducible show IsD _ _); exact Or.inl ⟨_, Or.inl (by walk_at "at")⟩)
 | ((with_reducible show V.int _ = kV _); exact kV_int)
 | ((with_reducible show Option.isSome _ = true); (first | exact isSome_ofV (by assumption) | assumption | fail))
 | ((with_reducible show SqL _ _ _ _ ∨ SqT _ _ _ _); (first | exact Or.inl (by assumption) | exact Or.inr (by assumption) | exact Or.inl (SqL.of (by walk_at "at")) | exact Or.inr (SqT.of (by walk_at "at")) | fail))
 | ((with_reducible show Dp _ _ _ _); (first | assumption | exact hO.dpL (by walk_at "mem") | exact .lst (SqL.of (by walk_at "at")) (hO.all (by walk_at "dv")) | exact hO.one (by walk_at "dv") | fail))
 | ((with_reducible show TruV _ _ _ _); (first | exact Or.inl ⟨_, SqL.of (by walk_at "at"), rfl⟩ | exact Or.inr (Or.inr ⟨_, by walk_at "at", rfl⟩) | exact Or.inr (Or.inl ⟨_, SqT.of (by walk_at "at"), rfl⟩) | fail))
 | ((with_reducible show RgOk _ _); exact RgOk.of_le (by omega) (by omega) (by omega) (by omega))
 | rfl | (with_reducible assumption) | apply And.intro | apply Exists.intro | refine iteT ?_ | refine iteF ?_
 | (walk_at "st"; (try walk_at "fl"))
 | ((with_reducible show ∀ _ : Addr, _ = none → _); (fail_if_success (with_reducible show ∀ _ : Addr, _ = none → ∃ _ : Nat → Nat → Hp → Prop, _)); intro p fp; walk_at "st")
 | (refine Or.inl ⟨SqL.of (by walk_at "at"), ?_⟩) | (refine Or.inr ⟨SqT.of (by walk_at "at"), ?_⟩) | exact Or.inl ⟨_, by walk_at "at", rfl⟩ | exact Or.inl ⟨rfl, _, SqL.of (by walk_at "at")⟩ | exact tyl_of (by walk_at "at") | exact Or.inl (SqL.of (by walk_at "at")) | exact Or.inr (SqT.of (by walk_at "at")) | exact Or.inl (by walk_at "at") | exact size_le (Nat.le_of_ble_eq_true rfl) | exact Nat.le_of_ble_eq_true rfl | exact True.intro | exact Or.inl rfl | exact Or.inr rfl | (show (_ : Prop); assumption) | (show (_ : Prop); omega) | (show (_ : Prop); dsimp only; omega) | exact mulw64 (by omega) (by omega) | exact mulw64 (by (try dsimp only); omega) (by (try dsimp only); omega) | fail))
local macro_rules | `(tactic| walk_at "go") => `(tactic| repeat walk_at "g1")

section
variable {P : Program} {w : World} {K : PySem.W.Frag} {mg : Str → Option Value} {base : Heap}
def sp_is_integer : Sp := fun vs H Q _ => ∃ i : Int, vs = [.int i] ∧ Q (.bl true) H
theorem ok_is_integer (T : Txt w K mg) : FnOk P w K mg base CX0 1 T.f_is_integer T.fd_is_integer ["value"] (sp_is_integer) := by
  refine T.F_is_integer.ok sc_is_integer (fun vs H Q E h => ?_) (fun cdv A outer s H vs Q E hr h => ?_)
  · obtain ⟨i, rfl, k⟩ := h; rfl
  · obtain ⟨i, rfl, k⟩ := h
    refine ⟨_, (pss_one (ps_ret (pe_and (pe_callB call_isi (by rfl) T.m_isinstance (by decide +kernel) (pa_cons (pv 0) (pa_cons (pe_bltn (v := .ty "int") (u := .type "int") (by rfl) T.m_int (by decide +kernel) rfl) pa_nil))) (pe_one (pe_not (pe_callB call_isi (by rfl) T.m_isinstance (by decide +kernel) (pa_cons (pv 0) (pa_cons (pe_bltn (v := .ty "bool") (u := .type "bool") (by rfl) T.m_bool (by decide +kernel) rfl) pa_nil)))))))), ?_⟩
    clear hr
    refine ⟨_, rfl, _, _, _, _, true, rfl, .ty _, .base (.int _), kit_ty (by decide +kernel), true, rfl, iteT ?_⟩
    refine ⟨_, rfl, _, _, _, _, false, rfl, .ty _, .base (.int _), kit_ty (by decide +kernel), false, rfl, k⟩
def sp_is_between : Sp := fun vs H Q _ => ∃ i a b : Int, vs = [.int i, .int a, .int b] ∧ Q (.bl (decide (a ≤ i ∧ i ≤ b))) H
theorem ok_is_between (T : Txt w K mg) : FnOk P w K mg base CX0 2 T.f_is_between T.fd_is_between ["value", "least", "most"] (sp_is_between) := by
  have G_is_integer := ok_is_integer (P := P) (w := w) (base := base) T
  refine T.F_is_between.ok sc_is_between (fun vs H Q E h => ?_) (fun cdv A outer s H vs Q E hr h => ?_)
  · obtain ⟨i, a, b, rfl, k⟩ := h; rfl
  · obtain ⟨i, a, b, rfl, k⟩ := h
    refine ⟨_, (pss_one (ps_ret (pe_and (pe_call G_is_integer (hr.mono (by decide)) rfl T.g_is_integer T.F_is_integer.kp T.b_is_integer .nil pass0 (pa_cons (pv 0) pa_nil)) (pe_one (pe_chain op_le op_le (pv 1) (pv 0) (pv 2)))))), ?_⟩
    clear G_is_integer
    clear hr
    walk_at "rd"
    refine iteD (fun h1 => ?_) (fun h1 => ?_)
    · walk_at "rd"; exact qbl k (by simp [h1])
    · exact qbl k (by simp [h1])
def sp_isw : Sp := fun vs H Q _ => ∃ i : Int, vs = [.int i] ∧ (0 ≤ i ∧ i < 65536) ∧ Q (.bl true) H
theorem ok_is_word (T : Txt w K mg) : FnOk P w K mg base CX0 3 T.f_is_word T.fd_is_word ["value"] (sp_isw) := by
  have G_is_between := ok_is_between (P := P) (w := w) (base := base) T
  refine T.F_is_word.ok sc_is_word (fun vs H Q E h => ?_) (fun cdv A outer s H vs Q E hr h => ?_)
  · obtain ⟨i, rfl, hi, k⟩ := h; rfl
  · obtain ⟨i, rfl, hi, k⟩ := h
    refine ⟨_, (pss_one (ps_ret (pe_call G_is_between (hr.mono (by decide)) rfl T.g_is_between T.F_is_between.kp T.b_is_between .nil pass0 (pa_cons (pv 0) (pa_cons pe_int (pa_cons (pe_op op_sub (pe_gint rfl T.c_WORDS) pe_int) pa_nil)))))), ?_⟩
    clear G_is_between
    clear hr
    walk_at "rd"
    exact qbl k (decide_eq_true (by omega))
def sp_needw : Sp := fun vs H Q _ => ∃ i : Int, vs = [.int i] ∧ (0 ≤ i ∧ i < 65536) ∧ Q .non H
theorem ok_need_word (T : Txt w K mg) : FnOk P w K mg base CX0 4 T.f_need_word T.fd_need_word ["value"] (sp_needw) := by
  have G_is_word := ok_is_word (P := P) (w := w) (base := base) T
  refine T.F_need_word.ok sc_need_word (fun vs H Q E h => ?_) (fun cdv A outer s H vs Q E hr h => ?_)
  · obtain ⟨i, rfl, hi, k⟩ := h; rfl
  · obtain ⟨i, rfl, hi, k⟩ := h
    refine ⟨_, (pss_one (ps_if (pt_not (pt_val (pe_call G_is_word (hr.mono (by decide)) rfl T.g_is_word T.F_is_word.kp T.b_is_word .nil pass0 (pa_cons (pv 0) pa_nil))))
          (pss_one ps_never)
          pss_nil)), ?_⟩
    clear G_is_word
    clear hr
    walk_at "rd"
def sp_needb : Sp := fun vs H Q _ => ∃ i l m : Int, vs = [.int i, .int l, .int m] ∧ (0 ≤ i ∧ i < 65536) ∧ (0 ≤ l ∧ l ≤ 15) ∧ (1 ≤ m ∧ m ≤ 16 - l) ∧ Q .non H
theorem ok_need_bits (T : Txt w K mg) : FnOk P w K mg base CX0 5 T.f_need_bits T.fd_need_bits ["word", "low", "many"] (sp_needb) := by
  have G_need_word := ok_need_word (P := P) (w := w) (base := base) T
  have G_is_between := ok_is_between (P := P) (w := w) (base := base) T
  refine T.F_need_bits.ok sc_need_bits (fun vs H Q E h => ?_) (fun cdv A outer s H vs Q E hr h => ?_)
  · obtain ⟨i, l, m, rfl, hi, hl, hm, k⟩ := h; rfl
  · obtain ⟨i, l, m, rfl, hi, hl, hm, k⟩ := h
    refine ⟨_, (pss_cons (ps_expr (pe_call G_need_word (hr.mono (by decide)) rfl T.g_need_word T.F_need_word.kp T.b_need_word .nil pass0 (pa_cons (pv 0) pa_nil)))
        (pss_cons (ps_if (pt_not (pt_val (pe_call G_is_between (hr.mono (by decide)) rfl T.g_is_between T.F_is_between.kp T.b_is_between .nil pass0 (pa_cons (pv 1) (pa_cons pe_int (pa_cons (pe_op op_sub (pe_gint rfl T.c__WORD_BITS) pe_int) pa_nil))))))
          (pss_one ps_never)
          pss_nil)
        (pss_one (ps_if (pt_not (pt_val (pe_call G_is_between (hr.mono (by decide)) rfl T.g_is_between T.F_is_between.kp T.b_is_between .nil pass0 (pa_cons (pv 2) (pa_cons pe_int (pa_cons (pe_op op_sub (pe_gint rfl T.c__WORD_BITS) (pv 1)) pa_nil))))))
          (pss_one ps_never)
          pss_nil)))), ?_⟩
    clear G_need_word G_is_between
    clear hr
    walk_at "rd"
    rw [decide_eq_true (show (0 : Int) ≤ l ∧ l ≤ 16 - 1 by omega)]
    walk_at "rd"
    rw [decide_eq_true (show (1 : Int) ≤ m ∧ m ≤ 16 - l by omega)]
    walk_at "rd"
def sp_bits : Sp := fun vs H Q _ => ∃ i : Int, vs = [.int i, .int 11, .int 5] ∧ (0 ≤ i ∧ i < 65536) ∧ Q (.int (i / 2048 % 32)) H
theorem ok_bits (T : Txt w K mg) : FnOk P w K mg base CX0 6 T.f_bits T.fd_bits ["word", "low", "many"] (sp_bits) := by
  have G_need_bits := ok_need_bits (P := P) (w := w) (base := base) T
  refine T.F_bits.ok sc_bits (fun vs H Q E h => ?_) (fun cdv A outer s H vs Q E hr h => ?_)
  · obtain ⟨i, rfl, hi, k⟩ := h; rfl
  · obtain ⟨i, rfl, hi, k⟩ := h
    refine ⟨_, (pss_cons (ps_expr (pe_call G_need_bits (hr.mono (by decide)) rfl T.g_need_bits T.F_need_bits.kp T.b_need_bits .nil pass0 (pa_cons (pv 0) (pa_cons (pv 1) (pa_cons (pv 2) pa_nil)))))
        (pss_one (ps_ret (pe_op op_mod (pe_op op_shr (pv 0) (pv 1)) (pe_op op_shl pe_int (pv 2)))))), ?_⟩
    clear G_need_bits
    clear hr
    walk_at "rd"
    show (0 : Int) < 1 * 2 ^ 5
    decide
/-- a tuple of these values, whatever else -/
structure MidT (K : PySem.W.Frag) (R : List (Addr × Ob)) (P0 : List Pf) (xs : List V) (v : V) (H : Hp) : Prop where
  ex : ∃ (q : Addr) (P : List Pf), v = .ref q ∧ Ps P0 P ∧ Pf.sq q xs ∈ P ∧ Own K H R P
section
variable {K : PySem.W.Frag} {H : Hp} {R : List (Addr × Ob)} {P P0 : List Pf} {q0 : Addr} {xs ys : List V}
theorem MidT.old (hO : Own K H R P) (m : Pf.sq q0 xs ∈ P) (sp : Ps P0 P) : MidT K R P0 xs (.ref q0) H := ⟨q0, P, rfl, sp, m, hO⟩
theorem MidT.new {p : Addr} (hO : Own K H R P) (fp : H p = none) (sp : Ps P0 P) : MidT K R P0 xs (.ref p) (upd H p (.tup xs)) := by
  have h1 := hO.newT (vs := xs) fp rfl
  have h2 := h1.derive (q := .sq p xs) (fun M h => SqT.of (h (Pf.tup p xs) List.mem_cons_self))
  exact ⟨p, _, rfl, sp.trans (Ps.skip (Ps.skip Ps.refl)), List.mem_cons_self, h2⟩
theorem MidT.tup {p : Addr} (hO : Own K H R (.tup p xs :: P)) (sp : Ps P0 P) : MidT K R P0 xs (.ref p) H :=
  ⟨p, _, rfl, sp.trans (Ps.skip (Ps.skip Ps.refl)), List.mem_cons_self, hO.derive (q := .sq p xs) (fun M h => SqT.of (h (Pf.tup p xs) List.mem_cons_self))⟩
theorem catEnd (hO : Own K H R P) (m : Pf.sq q0 xs ∈ P) (sp : Ps P0 P) : (ys = [] → MidT K R P0 (xs ++ ys) (.ref q0) H) ∧ (ys ≠ [] → ∀ p, H p = none → MidT K R P0 (xs ++ ys) (.ref p) (upd H p (.tup (xs ++ ys)))) :=
  ⟨fun e => by rw [e, List.append_nil]; exact MidT.old hO m sp, fun _ p fp => MidT.new hO fp sp⟩
theorem repEnd {k : Int} (hO : Own K H R P) (m : Pf.sq q0 xs ∈ P) (sp : Ps P0 P) : (k = 1 → MidT K R P0 (List.replicate k.toNat xs).flatten (.ref q0) H) ∧ (k ≠ 1 → ∀ p, H p = none → MidT K R P0 (List.replicate k.toNat xs).flatten (.ref p) (upd H p (.tup (List.replicate k.toNat xs).flatten))) :=
  ⟨fun e => by rw [e, show (List.replicate (1 : Int).toNat xs).flatten = xs from by simp]; exact MidT.old hO m sp, fun _ p fp => MidT.new hO fp sp⟩
theorem slEnd {lo hi : Option Int} (hO : Own K H R P) (m : Pf.sq q0 xs ∈ P) (sp : Ps P0 P) : (HT.sIx xs.length 0 lo = 0 ∧ HT.sIx xs.length xs.length hi = xs.length → MidT K R P0 (cutV xs lo hi) (.ref q0) H) ∧ (¬ (HT.sIx xs.length 0 lo = 0 ∧ HT.sIx xs.length xs.length hi = xs.length) → ∀ p, H p = none → MidT K R P0 (cutV xs lo hi) (.ref p) (upd H p (.tup (cutV xs lo hi)))) :=
  ⟨fun e => by rw [show cutV xs lo hi = xs from by unfold cutV; rw [e.1, e.2, List.drop_zero, Nat.sub_zero, List.take_length]]; exact MidT.old hO m sp, fun _ p fp => MidT.new hO fp sp⟩
end
def sp_ops (K : PySem.W.Frag) : Sp := fun vs H Q _ => ∃ (R : List (Addr × Ob)) (P : List Pf), vs = [] ∧ Own K H R P ∧ ∀ (p : Addr) (H' : Hp), Own K H' ((p, .raw (.lst (nmL.map V.str))) :: R) P → Q (.ref p) H'
theorem ok_operations (T : Txt w K mg) : FnOk P w K mg base CX0 1 T.f_operations T.fd_operations [] (sp_ops K) := by
  refine T.F_operations.ok sc_operations (fun vs H Q E h => ?_) (fun cdv A outer s H vs Q E hr h => ?_)
  · obtain ⟨R, P, rfl, hO, k⟩ := h; rfl
  · obtain ⟨R, P, rfl, hO, k⟩ := h
    refine ⟨_, (pss_one (ps_ret (pe_callTy (call_listTab rfl T.q_op) (by rfl) T.m_list (by decide +kernel) (pa_cons (pe_glob (v := .ref T.D_op) rfl T.g_op rfl) pa_nil)))), ?_⟩
    clear hr
    walk_at "go"
    exact k _ _ hO
def sp_isop : Sp := fun vs H Q _ => ∃ j : Nat, vs = [.str (nm j)] ∧ j < 26 ∧ Q (.bl true) H
theorem ok_is_operation (T : Txt w K mg) : FnOk P w K mg base CX0 1 T.f_is_operation T.fd_is_operation ["value"] (sp_isop) := by
  refine T.F_is_operation.ok sc_is_operation (fun vs H Q E h => ?_) (fun cdv A outer s H vs Q E hr h => ?_)
  · obtain ⟨j, rfl, hj, k⟩ := h; rfl
  · obtain ⟨j, rfl, hj, k⟩ := h
    refine ⟨_, (pss_one (ps_ret (pe_and (pe_callB call_isi (by rfl) T.m_isinstance (by decide +kernel) (pa_cons (pv 0) (pa_cons (pe_bltn (v := .ty "str") (u := .type "str") (by rfl) T.m_str (by decide +kernel) rfl) pa_nil))) (pe_one (pe_cmpR (op_in_tab T.t_op) (pv 0) (pe_glob (v := .ref T.D_op) rfl T.g_op rfl) (by rfl)))))), ?_⟩
    clear hr
    have hm := opT_mem hj
    refine ⟨_, rfl, _, _, _, _, true, rfl, .ty _, .base (.str _), kit_ty (by decide +kernel), ?_⟩
    refine ⟨true, rfl, iteT ?_⟩
    refine ⟨_, rfl, _, rfl, rfl, Or.inl ⟨⟨_, hm⟩, k⟩⟩
def sp_formof (K : PySem.W.Frag) : Sp := fun vs H Q _ => ∃ (j : Nat) (R : List (Addr × Ob)) (P : List Pf), vs = [.str (nm j)] ∧ Own K H R P ∧ j < 26 ∧ Q (.str (fmN (fi j))) H
theorem ok__form_of (T : Txt w K mg) : FnOk P w K mg base CX0 1 T.f__form_of T.fd__form_of ["name"] (sp_formof K) := by
  refine T.F__form_of.ok sc__form_of (fun vs H Q E h => ?_) (fun cdv A outer s H vs Q E hr h => ?_)
  · obtain ⟨j, R, P, rfl, hO, hj, k⟩ := h; rfl
  · obtain ⟨j, R, P, rfl, hO, hj, k⟩ := h
    refine ⟨_, (pss_one (ps_ret (pe_ix ix_tup (pe_ix (ix_tab T.t_op) (pe_glob (v := .ref T.D_op) rfl T.g_op rfl) (pv 0) (fun _ _ => rfl)) pe_int (fun _ _ => rfl)))), ?_⟩
    clear hr
    have hm := opT_mem hj
    walk_at "go"
    intro v hv
    obtain ⟨t, rfl, hO⟩ := hO.opn (fun M _ => hv M)
    walk_at "go"
/-- whether a number fits a part -/
def fitB (p : Str) (n : Int) : Bool := decide ((pa p).2.2.1 ≤ n ∧ n ≤ (pa p).2.2.2)
def sp_fits (K : PySem.W.Frag) : Sp := fun vs H Q _ => ∃ (i : Nat) (n : Int) (p : Str) (R : List (Addr × Ob)) (P : List Pf), vs = [.int n, .str p] ∧ Own K H R P ∧ i < 7 ∧ p ∈ ptN i ∧ ∀ H' P', Ps P P' → Own K H' R P' → Q (.bl (fitB p n)) H'
theorem ok__fits (T : Txt w K mg) : FnOk P w K mg base CX0 3 T.f__fits T.fd__fits ["number", "part"] (sp_fits K) := by
  have G_is_between := ok_is_between (P := P) (w := w) (base := base) T
  refine T.F__fits.ok sc__fits (fun vs H Q E h => ?_) (fun cdv A outer s H vs Q E hr h => ?_)
  · obtain ⟨i, n, p, R, P, rfl, hO, hi, hp, k⟩ := h; rfl
  · obtain ⟨i, n, p, R, P, rfl, hO, hi, hp, k⟩ := h
    refine ⟨_, (pss_cons (ps_asg (pe_slice sl_tup (pe_ix (ix_tab T.t_pa) (pe_glob (v := .ref T.D_pa) rfl T.g_pa rfl) (pv 1) (fun _ _ => rfl)) (po_some pe_int) po_none) (pg_tup rfl (pgs_cons (pg_name (i := 2) sc__fits.nd rfl (Or.inl rfl)) (pgs_cons (pg_name (i := 3) sc__fits.nd rfl (Or.inl rfl)) pgs_nil))))
        (pss_one (ps_ret (pe_call G_is_between (hr.mono (by decide)) rfl T.g_is_between T.F_is_between.kp T.b_is_between .nil pass0 (pa_cons (pv 0) (pa_cons (pv 2) (pa_cons (pv 3) pa_nil))))))), ?_⟩
    clear G_is_between
    clear hr
    have hm := paT_mem hi hp
    walk_at "go"
    intro v hv
    obtain ⟨t, rfl, hO⟩ := hO.opn (fun M _ => hv M)
    walk_at "go"
    · exact k _ _ (Ps.skip (Ps.skip Ps.refl)) hO
    · exact fun h => absurd (show (2 : Nat) = 0 from h.1) (by decide)
end
end K15

set_option Elab.async false
set_option linter.all false
set_option maxRecDepth 100000
set_option maxHeartbeats 8000000

namespace K15
open PySem PySem.Spec PyProof.Rows L2 Hx 
local macro_rules | `(tactic| walk_at "sm") => `(tactic| repeat' (first | assumption | apply Hx.Same.upd | exact L2.Same.refl _ | apply same_trans'))
local macro_rules | `(tactic| walk_at "hp") => `(tactic| repeat' (first | assumption | exact upd_same | apply old_upd | apply same_at))
local macro_rules | `(tactic| walk_at "rd") => `(tactic| repeat' (first | rfl | apply Exists.intro | apply And.intro | refine iteT ?_ | refine iteF ?_ | exact upd_same | exact SqL.of (by assumption) | exact SqL.of upd_same | exact SqT.of upd_same | exact SqT.of (by assumption) | ((with_reducible show (_ : Int) < _); omega) | ((with_reducible show (_ : Int) ≤ _); omega) | (show (_ : Prop); assumption) | exact Or.inl ⟨_, by assumption, rfl⟩ | exact Or.inl ⟨rfl, _, SqL.of (by assumption)⟩ | exact Or.inl ⟨rfl, _, SqL.of upd_same⟩ | apply old_upd | apply Hx.SqL.new | apply tyl_new | apply Pot.new | exact same_at (by assumption) (by assumption) | exact Or.inl (SqL.of (by assumption)) | exact Or.inl (by assumption) | exact Or.inl (SqL.of upd_same) | exact size_le (Nat.le_of_ble_eq_true rfl) | exact Nat.le_of_ble_eq_true rfl | exact True.intro | exact Or.inl rfl | exact Or.inr rfl | (show (_ : Prop); omega) | (show (_ : Prop); dsimp only; omega) | exact mulw64 (by omega) (by omega) | exact mulw64 (by (try dsimp only); omega) (by (try dsimp only); omega)))
local macro_rules | `(tactic| walk_at "mem") => `(tactic| ((repeat (first | exact List.Mem.head _ | apply List.Mem.tail | fail)); done))
local macro_rules | `(tactic| walk_at "setat") => `(tactic| ((repeat (first | (with_reducible exact At.head) | (with_reducible apply At.tail) | (with_reducible apply At.app) | fail)); done))
set_option hygiene false in
local macro_rules | `(tactic| walk_at "dv") => `(tactic| ((repeat' (first | exact Dv.nil | exact Dv.of (by walk_at "mem") | exact Dv.ints _ | exact Dv1.of (by walk_at "mem") | exact Dv1.int _ | exact Dv1.non | exact Dv1.bl _ | exact Dv1.str _ | (with_reducible apply Dv.cons) | refine Dv1.tup (by walk_at "mem") ?_ | refine Dv1.lst (by walk_at "mem") ?_ | (with_reducible apply Dv.app) | fail)); done))
local macro_rules | `(tactic| walk_at "ft") => `(tactic| (first | (with_reducible exact Ft.refl) | ((with_reducible apply Ft.toL); focus walk_at "dv") | ((with_reducible apply Ft.toS); focus assumption) | (with_reducible apply Ft.lst) | (with_reducible apply Ft.Le) | (with_reducible apply Ft.dK) | (with_reducible apply Ft.De) | (with_reducible apply Ft.ins) | (with_reducible apply Ft.toL) | (with_reducible apply Ft.toS) | (with_reducible apply Ft.toD) | fail))
local macro_rules | `(tactic| walk_at "sbL") => `(tactic| repeat' (first | (with_reducible exact Sb.refl _) | exact Sb.nil | (with_reducible apply Sb.cons) | (with_reducible apply Sb.app) | (with_reducible exact Pk.one) | (with_reducible exact Pk.here) | (with_reducible exact Pk.all) | (with_reducible apply Pk.skip1) | (with_reducible apply Pk.skipB) | (with_reducible apply Sb.skip) | (with_reducible apply Sb.skipB) | ((with_reducible show Ft _ _ _ _); walk_at "ft") | ((with_reducible show (_ : List _) = _); (first | rfl | (simp [List.map_set, List.map_append]; done) | fail)) | fail))
local macro_rules | `(tactic| walk_at "sb") => `(tactic| ((walk_at "sbL"); done))
local macro_rules | `(tactic| walk_at "ps") => `(tactic| ((repeat' (first | (with_reducible exact Ps.refl) | exact Ps.nil | (with_reducible apply Ps.cons) | exact List.Mem.head _ | apply List.Mem.tail | (with_reducible apply Ps.skip) | fail)); done))
set_option hygiene false in
local macro_rules | `(tactic| walk_at "at") => `(tactic| first | assumption | exact Own.raw hO (by walk_at "mem") | exact Own.ptup hO (by walk_at "mem") | exact Own.plst hO (by walk_at "mem") | fail)
set_option hygiene false in
local macro_rules | `(tactic| walk_at "st") => `(tactic| (rw [upd_mkO hO]; generalize e : updX _ _ _ = H1; (first | ((apply Own.cset hO e); (focus walk_at "setat"); (try clear hO e); intro hO) | ((apply Own.cnewT hO e); (focus assumption); (try clear hO e); intro hO) | ((apply Own.cnew hO e); (focus assumption); (try clear hO e); intro hO) | fail)))
set_option hygiene false in
local macro_rules | `(tactic| walk_at "mk") => `(tactic| (intro p1 p2 f1 f2 f3; rw [upd_mkO hO]; generalize e : upd (updX _ _ _) _ _ = H1; apply Own.cmake hO f1 f2 f3 e; (try clear hO e); intro hO))
set_option hygiene false in
local macro_rules | `(tactic| walk_at "own") => `(tactic| (first | ((apply Own.sub hO); (focus walk_at "sb"); (focus walk_at "ps")) | ((apply Own.sub hF); (focus walk_at "sb"); (focus walk_at "ps")) | fail))
set_option hygiene false in
local macro_rules | `(tactic| walk_at "fin") => `(tactic| (refine Own.sub hO ?_ (by walk_at "ps"); walk_at "sbL"))
set_option hygiene false in
local macro_rules | `(tactic| walk_at "g1") => `(tactic| (first
 | ((with_reducible show (_ : Option HO) = _); walk_at "at")
 | ((with_reducible show (_ : Int) < _); omega) | ((with_reducible show (_ : Int) ≤ _); omega)
 | ((with_reducible show (_ : Nat) < _); (first | assumption | exact Nat.le_of_ble_eq_true rfl | exact size_lt (Nat.le_of_ble_eq_true rfl) | omega | (simp; done) | (simp; omega) | fail))
 | ((with_reducible show (_ : Nat) ≤ _); (first | assumption | exact Nat.le_of_ble_eq_true rfl | exact size_le (Nat.le_of_ble_eq_true rfl) | omega | (simp; done) | (simp; omega) | fail))
 | ((with_reducible show (_ : Pf) ∈ _); (first | assumption | (focus walk_at "mem") | ((repeat (with_reducible apply List.mem_cons_of_mem)); assumption) | fail))
 | ((with_reducible show Own _ _ _ _); (first | walk_at "own" | (walk_at "st"; walk_at "own") | fail))
 | ((with_reducible show SqL _ _ _ _); (first | assumption | exact SqL.of (by walk_at "at") | fail))
 | ((with_reducible show SqT _ _ _ _); (first | assumption | exact hO.psq (by walk_at "mem") | exact hO.psq (by assumption) | exact SqT.of (by walk_at "at") | fail))
   | ((with_reducible show V.ref _ = V.ref _); (first | rfl | fail))
 | ((with_reducible show DGet _ _ _ _); (first | exact DGet.ki (by walk_at "at") (by assumption) | exact DGet.kiF (by walk_at "at") (by assumption) | fail))
 | ((with_reducible show DPut _ _ _ _ _); exact DPut.ki (by walk_at "at") (by assumption))
 | ((with_reducible show Rd _ _ _); (first | exact Or.inl (by walk_at "at") | exact Or.inr ⟨_, by walk_at "at"⟩ | fail))
 | ((with_reducible show (∃ _ : List (Key × V), _) ∨ _); refine Or.inl ⟨_, by walk_at "at", ?_⟩)
 | ((with_reducible show Dv _ _ _ _); focus walk_at "dv") | ((with_reducible show Dv1 _ _ _ _); focus walk_at "dv")
 | ((with_reducible show IsD _ _); exact Or.inl ⟨_, Or.inl (by walk_at "at")⟩)
 | ((with_reducible show V.int _ = kV _); exact kV_int)
 | ((with_reducible show Option.isSome _ = true); (first | exact isSome_ofV (by assumption) | assumption | fail))
 | ((with_reducible show SqL _ _ _ _ ∨ SqT _ _ _ _); (first | exact Or.inl (by assumption) | exact Or.inr (by assumption) | exact Or.inl (SqL.of (by walk_at "at")) | exact Or.inr (SqT.of (by walk_at "at")) | fail))
 | ((with_reducible show Dp _ _ _ _); (first | assumption | exact hO.dpL (by walk_at "mem") | exact .lst (SqL.of (by walk_at "at")) (hO.all (by walk_at "dv")) | exact hO.one (by walk_at "dv") | fail))
 | ((with_reducible show TruV _ _ _ _); (first | exact Or.inl ⟨_, SqL.of (by walk_at "at"), rfl⟩ | exact Or.inr (Or.inr ⟨_, by walk_at "at", rfl⟩) | exact Or.inr (Or.inl ⟨_, SqT.of (by walk_at "at"), rfl⟩) | fail))
 | ((with_reducible show RgOk _ _); exact RgOk.of_le (by omega) (by omega) (by omega) (by omega))
 | rfl | (with_reducible assumption) | apply And.intro | apply Exists.intro | refine iteT ?_ | refine iteF ?_
 | (walk_at "st"; (try walk_at "fl"))
 | ((with_reducible show ∀ _ : Addr, _ = none → _); (fail_if_success (with_reducible show ∀ _ : Addr, _ = none → ∃ _ : Nat → Nat → Hp → Prop, _)); intro p fp; walk_at "st")
 | (refine Or.inl ⟨SqL.of (by walk_at "at"), ?_⟩) | (refine Or.inr ⟨SqT.of (by walk_at "at"), ?_⟩) | exact Or.inl ⟨_, by walk_at "at", rfl⟩ | exact Or.inl ⟨rfl, _, SqL.of (by walk_at "at")⟩ | exact tyl_of (by walk_at "at") | exact Or.inl (SqL.of (by walk_at "at")) | exact Or.inr (SqT.of (by walk_at "at")) | exact Or.inl (by walk_at "at") | exact size_le (Nat.le_of_ble_eq_true rfl) | exact Nat.le_of_ble_eq_true rfl | exact True.intro | exact Or.inl rfl | exact Or.inr rfl | (show (_ : Prop); assumption) | (show (_ : Prop); omega) | (show (_ : Prop); dsimp only; omega) | exact mulw64 (by omega) (by omega) | exact mulw64 (by (try dsimp only); omega) (by (try dsimp only); omega) | fail))
local macro_rules | `(tactic| walk_at "go") => `(tactic| repeat walk_at "g1")

section
variable {P : Program} {w : World} {K : PySem.W.Frag} {mg : Str → Option Value} {base : Heap}
/-- how a number stands in its part -/
def stN (p : Str) (n : Int) : Int := n % (1 * 2 ^ (Hx.pa p).2.1.toNat) * 2 ^ (Hx.pa p).1.toNat
theorem pa_lm {i : Nat} (h : i < 7) {p : Str} (m : p ∈ ptN i) : (0 ≤ (Hx.pa p).1 ∧ (Hx.pa p).1 ≤ 8) ∧ (3 ≤ (Hx.pa p).2.1 ∧ (Hx.pa p).2.1 ≤ 8) := by
  have z : ∀ i < 7, (ptN i).all (fun p => decide ((0 ≤ (Hx.pa p).1 ∧ (Hx.pa p).1 ≤ 8) ∧ (3 ≤ (Hx.pa p).2.1 ∧ (Hx.pa p).2.1 ≤ 8))) = true := by decide +kernel
  exact of_decide_eq_true (List.all_eq_true.mp (z i h) p m)
theorem pw_le {m : Int} (h : 3 ≤ m ∧ m ≤ 8) : 0 < (1 : Int) * 2 ^ m.toNat ∧ (1 : Int) * 2 ^ m.toNat ≤ 256 := by
  have c : m = 3 ∨ m = 4 ∨ m = 5 ∨ m = 6 ∨ m = 7 ∨ m = 8 := by omega
  rcases c with rfl | rfl | rfl | rfl | rfl | rfl <;> decide
def sp_stands (K : PySem.W.Frag) : Sp := fun vs H Q _ => ∃ (i : Nat) (n : Int) (p : Str) (R : List (Addr × Ob)) (P : List Pf), vs = [.int n, .str p] ∧ Own K H R P ∧ i < 7 ∧ p ∈ ptN i ∧ (-100000 ≤ n ∧ n ≤ 100000) ∧ ∀ H' P', Ps P P' → Own K H' R P' → Q (.int (stN p n)) H'
theorem ok__stands (T : Txt w K mg) : FnOk P w K mg base CX0 1 T.f__stands T.fd__stands ["number", "part"] (sp_stands K) := by
  refine T.F__stands.ok sc__stands (fun vs H Q E h => ?_) (fun cdv A outer s H vs Q E hr h => ?_)
  · obtain ⟨i, n, p, R, P, rfl, hO, hi, hp, hn, k⟩ := h; rfl
  · obtain ⟨i, n, p, R, P, rfl, hO, hi, hp, hn, k⟩ := h
    refine ⟨_, (pss_cons (ps_asg (pe_slice sl_tup (pe_ix (ix_tab T.t_pa) (pe_glob (v := .ref T.D_pa) rfl T.g_pa rfl) (pv 1) (fun _ _ => rfl)) po_none (po_some pe_int)) (pg_tup rfl (pgs_cons (pg_name (i := 2) sc__stands.nd rfl (Or.inl rfl)) (pgs_cons (pg_name (i := 3) sc__stands.nd rfl (Or.inl rfl)) pgs_nil))))
        (pss_one (ps_ret (pe_op op_shl (pe_op op_mod (pv 0) (pe_op op_shl pe_int (pv 3))) (pv 2))))), ?_⟩
    clear hr
    have hm := paT_mem hi hp
    have hb := pa_lm hi hp
    unfold stN at k
    generalize Hx.pa p = z at hm hb k
    obtain ⟨lo, mb, mn, mx⟩ := z
    dsimp only at hm hb k
    have hw := pw_le hb.2
    walk_at "go"
    intro v hv
    obtain ⟨t, rfl, hO⟩ := hO.opn (fun M _ => hv M)
    walk_at "go"
    · exact k _ _ (Ps.skip (Ps.skip Ps.refl)) hO
    · exact fun h => absurd (show (2 : Nat) = 4 from h.2) (by decide)
theorem keepPs {K : PySem.W.Frag} {H : Hp} {L : List (Addr × Ob)} {P : List Pf} {q : Pf} {G : Prop} (hO : Own K H L (q :: P)) (k : ∀ P0, q ∈ P0 → Ps P P0 → Own K H L P0 → G) : G := k (q :: P) List.mem_cons_self (Ps.skip Ps.refl) hO
theorem iteT' {c : Prop} [Decidable c] {α β : Prop} (h : c) (k : α) : if decide c = true then α else β := by rw [if_pos (decide_eq_true h)]; exact k
theorem sl_posK {n k : Nat} {B : Prop} (h : 0 < n) (hk : 0 < k) : ¬ (HT.sIx n 0 (some (k : Int)) = 0 ∧ B) := fun z => by
  have e := HT.sIx_nat n 0 k
  have z1 := z.1
  rw [e] at z1
  omega
theorem sl_pos {n : Nat} {B : Prop} (h : 0 < n) : ¬ (HT.sIx n 0 (some (1 : Int)) = 0 ∧ B) := sl_posK (k := 1) h (by decide)
theorem ptN_le {i : Nat} (h : i < 7) : (ptN i).length ≤ 100 := by
  have z : ∀ i < 7, (ptN i).length ≤ 100 := by decide +kernel
  exact z i h
theorem fv_str (xs : List Str) : (xs.map PyData.str).map fv = xs.map V.str := by rw [List.map_map]; rfl
theorem fv_int (xs : List Int) : (xs.map PyData.int).map fv = xs.map V.int := by rw [List.map_map]; rfl
theorem fl_str (xs : List Str) : (xs.map PyData.str).all flatD = true := by rw [List.all_map]; exact List.all_eq_true.mpr fun _ _ => rfl
theorem fl_int (xs : List Int) : (xs.map PyData.int).all flatD = true := by rw [List.all_map]; exact List.all_eq_true.mpr fun _ _ => rfl
theorem _root_.Hx.Own.opnS {K : PySem.W.Frag} {H : Hp} {L : List (Addr × Ob)} {P : List Pf} {v : V} {xs : List Str} (h : Own K H L P) (x : Dv1 K P v (.tuple (xs.map PyData.str))) : ∃ t, v = .ref t ∧ Own K H L (.sq t (xs.map V.str) :: P) := by
  obtain ⟨t, e, q⟩ := h.opn x (fl_str xs)
  rw [fv_str] at q
  exact ⟨t, e, q⟩
theorem _root_.Hx.Own.opnI {K : PySem.W.Frag} {H : Hp} {L : List (Addr × Ob)} {P : List Pf} {v : V} {xs : List Int} (h : Own K H L P) (x : Dv1 K P v (.tuple (xs.map PyData.int))) : ∃ t, v = .ref t ∧ Own K H L (.sq t (xs.map V.int) :: P) := by
  obtain ⟨t, e, q⟩ := h.opn x (fl_int xs)
  rw [fv_int] at q
  exact ⟨t, e, q⟩
/-- the word of a name's place and numbers -/
def wdN (j : Nat) (ns : List Int) : Int := ((j : Int) + 1) * 2 ^ (11 : Int).toNat + (List.zipWith (fun n p => stN p n) ns (ptN (fi j))).sum
def sp_wordof (K : PySem.W.Frag) : Sp := fun vs H Q _ => ∃ (a : Addr) (j : Nat) (ns : List Int) (R : List (Addr × Ob)) (P : List Pf), vs = [.ref a] ∧ Own K H R P ∧ Pf.sq a (insV j ns) ∈ P ∧ j < 26 ∧ ns.length = (ptN (fi j)).length ∧ (∀ n ∈ ns, -100000 ≤ n ∧ n ≤ 100000) ∧ ∀ H' P', Ps P P' → Own K H' R P' → Q (.int (wdN j ns)) H'
theorem ok__word_of (T : Txt w K mg) : FnOk P w K mg base CX0 2 T.f__word_of T.fd__word_of ["instruction"] (sp_wordof K) := by
  have G__stands := ok__stands (P := P) (w := w) (base := base) T
  refine T.F__word_of.ok sc__word_of (fun vs H Q E h => ?_) (fun cdv A outer s H vs Q E hr h => ?_)
  · obtain ⟨a, j, ns, R, P, rfl, hO, ma, hj, hnl, hnb, k⟩ := h; rfl
  · obtain ⟨a, j, ns, R, P, rfl, hO, ma, hj, hnl, hnb, k⟩ := h
    refine ⟨_, (pss_cons (ps_asg (pe_ix (ix_tab T.t_op) (pe_glob (v := .ref T.D_op) rfl T.g_op rfl) (pe_ix ix_tup (pv 0) pe_int (fun _ _ => rfl)) (fun _ _ => rfl)) (pg_tup rfl (pgs_cons (pg_name (i := 1) sc__word_of.nd rfl (Or.inl rfl)) (pgs_cons (pg_name (i := 2) sc__word_of.nd rfl (Or.inl rfl)) pgs_nil))))
        (pss_cons (ps_setLc (i := 3) (own := [("one", 4), ("part", 5)]) (g := gTup _ 2 (gCons (gName 4) (gCons (gName 5) gNil)))  rfl sc__word_of.nd rfl rfl (sw_true rfl rfl rfl (by decide +kernel)) (RZ.pi_zipA rfl T.m_zip (pa_cons (pe_slice sl_tup (pv 0) (po_some pe_int) po_none) (pa_cons (pe_ix (ix_tab T.t_fo) (pe_glob (v := .ref T.D_fo) rfl T.g_fo rfl) (pv 2) (fun _ _ => rfl)) pa_nil))) (blkOk_by (N := ["instruction", "number", "form", "stands", "one", "part"]) (sc := defScope s__word_of) (by decide +kernel)) (fun _ _ _ _ _ => pg_pair (i := 4) (j := 5) rfl sc__word_of.nd rfl rfl (Or.inl rfl) (Or.inl rfl)) (fun _ _ _ _ _ => pts_nil) (fun _ _ _ _ _ => (pe_call G__stands (hr.mono (by decide)) rfl T.g__stands T.F__stands.kp T.b__stands .nil pass0 (pa_cons (pv 4) (pa_cons (pv 5) pa_nil)))))
        (pss_one (ps_ret (pe_op op_add (pe_op op_shl (pv 1) (pe_gint rfl T.c__NUMBER_BIT)) (pe_callB (cr_sum rfl) (by rfl) T.m_sum (by decide +kernel) (pa_cons (pv 3) pa_nil))))))), ?_⟩
    clear G__stands
    clear hr
    have hS := hO.psq ma
    have at0 : atI (insV j ns) (0 : Int) = some (.str (nm j)) := atI_nat (j := 0) rfl
    have hi7 := fi_lt hj
    have hpl := ptN_le hi7
    have hm := opT_mem hj
    have hfm := foT_mem hi7
    have ecut : cutV (insV j ns) (some (1 : Int)) none = ns.map V.int := cut_from (insV j ns) 1
    walk_at "go"
    intro v hv
    obtain ⟨t, rfl, hO⟩ := hO.opn (fun M _ => hv M)
    walk_at "go"
    · rw [ecut] at hO
      intro v2 hv2
      obtain ⟨t2, rfl, hO⟩ := hO.opnS (fun M _ => hv2 M)
      walk_at "go"
      intro D hD
      refine lc_rawW (walk_zipT (xs := ns.map V.int) (ys := (ptN (fi j)).map V.str) (n := ns.length) (by rw [List.length_map, List.length_map]; omega)) ((List.zipWith (fun n p => stN p n) ns (ptN (fi j))).map V.int) hO hD (by rw [List.length_map, List.length_zipWith]; omega) (by omega) (fun H L' P' s m h => ⟨SqT.of (h.ptup (m _ (by walk_at "mem"))), h.psq (m _ (by walk_at "mem"))⟩) (fun i x y H9 H' P' Qx hi hY hy sp hO kq => ?_) (fun H2 P2 sp2 hO => ?_)
      · obtain ⟨t0, u, v2, rfl, hT0, rfl, e1, e2⟩ := hY
        obtain ⟨n, rfl, hn⟩ := int_get e1
        have e2 : ((ptN (fi j)).map V.str)[i]? = some v2 := e2
        rw [List.getElem?_map] at e2
        obtain ⟨q, hq, rfl⟩ := Option.map_eq_some_iff.mp e2
        rw [List.getElem?_map, List.getElem?_zipWith, hn, hq] at hy
        obtain rfl := Option.some.inj hy
        replace hO := hO.newT (vs := [.int n, .str q]) hT0 rfl
        generalize upd H9 t0 (.tup [.int n, .str q]) = H3 at hO ⊢
        have hq2 : q ∈ ptN (fi j) := List.mem_of_getElem? hq
        have hnn := hnb n (List.mem_of_getElem? hn)
        walk_at "go"
        intro H4 P4 sp4 hO
        exact kq _ P4 ((Ps.skip Ps.refl).trans sp4) hO
      · walk_at "go"
        refine k _ P2 ((Ps.skip (Ps.skip (Ps.skip Ps.refl))).trans sp2) ?_
        walk_at "fin"
    · exact sl_pos (by rw [insV, List.length_cons]; omega)
/-- whether the numbers fit -/
def fitsA (j : Nat) (ns : List Int) : Bool := (List.zipWith (fun n p => fitB p n) ns (ptN (fi j))).all id
/-- what is asked about: a list, or a tuple of a name and numbers -/
def InsOr (K : PySem.W.Frag) (H : Hp) (P : List Pf) (a : Addr) : Option (Nat × List Int) → Prop
  | none => ∃ xs, H a = some (.lst xs)
  | some (j, ns) => Pf.sq a (insV j ns) ∈ P ∧ j < 26 ∧ ns.length = (ptN (fi j)).length
def ansI : Option (Nat × List Int) → Bool
  | none => false
  | some (j, ns) => fitsA j ns
def sp_isins (K : PySem.W.Frag) : Sp := fun vs H Q _ => ∃ (a : Addr) (kd : Option (Nat × List Int)) (R : List (Addr × Ob)) (P : List Pf), vs = [.ref a] ∧ Own K H R P ∧ InsOr K H P a kd ∧ ∀ H' P', Ps P P' → Own K H' R P' → Q (.bl (ansI kd)) H'
theorem ok_is_instruction (T : Txt w K mg) : FnOk P w K mg base CX0 4 T.f_is_instruction T.fd_is_instruction ["value"] (sp_isins K) := by
  have G_is_operation := ok_is_operation (P := P) (w := w) (base := base) T
  have G__form_of := ok__form_of (P := P) (w := w) (base := base) T
  have G__fits := ok__fits (P := P) (w := w) (base := base) T
  refine T.F_is_instruction.ok sc_is_instruction (fun vs H Q E h => ?_) (fun cdv A outer s H vs Q E hr h => ?_)
  · obtain ⟨a, kd, R, P, rfl, hO, hkd, k⟩ := h; rfl
  · obtain ⟨a, kd, R, P, rfl, hO, hkd, k⟩ := h
    refine ⟨_, (pss_cons (ps_if (pt_not (PW.pt (pw_and (pt_val (pe_callB call_isi (by rfl) T.m_isinstance (by decide +kernel) (pa_cons (pv 0) (pa_cons (pe_bltn (v := .ty "tuple") (u := .type "tuple") (by rfl) T.m_tuple (by decide +kernel) rfl) pa_nil)))) (pw_and (pt_cmpR op_gt (pe_callB call_len_seq (by rfl) T.m_len (by decide +kernel) (pa_cons (pv 0) pa_nil)) pe_int (nomark _)) (pw_and1 (pt_val (pe_call G_is_operation (hr.mono (by decide)) rfl T.g_is_operation T.F_is_operation.kp T.b_is_operation .nil pass0 (pa_cons (pe_ix ix_tup (pv 0) pe_int (fun _ _ => rfl)) pa_nil))))))))
          (pss_one (ps_ret pe_bl))
          pss_nil)
        (pss_cons (ps_set (i := 1) sc_is_instruction.nd rfl (Or.inl rfl) (pe_ix (ix_tab T.t_fo) (pe_glob (v := .ref T.D_fo) rfl T.g_fo rfl) (pe_call G__form_of (hr.mono (by decide)) rfl T.g__form_of T.F__form_of.kp T.b__form_of .nil pass0 (pa_cons (pe_ix ix_tup (pv 0) pe_int (fun _ _ => rfl)) pa_nil)) (fun _ _ => rfl)))
        (pss_cons (ps_if (pt_cmpR op_ne (pe_callB call_len_seq (by rfl) T.m_len (by decide +kernel) (pa_cons (pv 0) pa_nil)) (pe_op op_add (pe_callB call_len_seq (by rfl) T.m_len (by decide +kernel) (pa_cons (pv 1) pa_nil)) pe_int) (nomark _))
          (pss_one (ps_ret pe_bl))
          pss_nil)
        (pss_one (ps_ret (pe_callB (cr_all rfl) (by rfl) T.m_all (by decide +kernel) (pa_cons (pe_lc (own := [("number", 2), ("part", 3)]) (g := gTup _ 2 (gCons (gName 2) (gCons (gName 3) gNil))) (tt := tYes) rfl sc_is_instruction.nd (RZ.pi_zipA rfl T.m_zip (pa_cons (pe_slice sl_tup (pv 0) (po_some pe_int) po_none) (pa_cons (pv 1) pa_nil))) (blkOk_by (N := ["value", "parts", "number", "part"]) (sc := defScope s_is_instruction) (by decide +kernel)) (fun _ _ _ _ _ => pg_pair (i := 2) (j := 3) rfl sc_is_instruction.nd rfl rfl (Or.inl rfl) (Or.inl rfl)) (fun _ _ _ _ _ => pts_nil) (fun _ _ _ _ _ => (pe_call G__fits (hr.mono (by decide)) rfl T.g__fits T.F__fits.kp T.b__fits .nil pass0 (pa_cons (pv 2) (pa_cons (pv 3) pa_nil))))) pa_nil))))))), ?_⟩
    clear G_is_operation G__form_of G__fits
    clear hr
    cases kd with
    | none =>
      obtain ⟨xs, hx⟩ := hkd
      refine ⟨_, rfl, _, _, _, _, false, rfl, .ty _, .base (.lst hx), kit_ty (by decide +kernel), ?_⟩
      walk_at "go"
      exact k _ _ Ps.refl hO
    | some q =>
      obtain ⟨j, ns⟩ := q
      obtain ⟨mi, hj, hln⟩ := hkd
      have hS := hO.psq mi
      have hi7 := fi_lt hj
      have hfm := foT_mem hi7
      have at0 : atI (insV j ns) (0 : Int) = some (.str (nm j)) := atI_nat (j := 0) rfl
      refine ⟨_, rfl, _, _, _, _, true, rfl, .ty _, tyx_tup hS, kit_ty (by decide +kernel), ?_⟩
      have hlen : (insV j ns).length = (ptN (fi j)).length + 1 := by rw [insV, List.length_cons, List.length_map, hln]
      have hpl := ptN_le hi7
      walk_at "go"
      refine iteT' (by rw [hlen]; omega) ?_
      walk_at "go"
      intro v hv
      obtain ⟨t, ev, hO⟩ := hO.opnS (fun M _ => hv M)
      subst ev
      have hT : SqT K H t ((ptN (fi j)).map V.str) := hO.psq List.mem_cons_self
      walk_at "go"
      refine iteN (fun h => absurd (congrArg V.int (by rw [hlen, List.length_map]; omega)) h) (fun _ => ?_)
      have ecut : cutV (insV j ns) (some (1 : Int)) none = ns.map V.int := cut_from (insV j ns) 1
      walk_at "go"
      · rw [ecut] at hO
        intro D hD
        refine lc_rawW (walk_zipT (xs := ns.map V.int) (ys := (ptN (fi j)).map V.str) (n := ns.length) (by rw [List.length_map, List.length_map]; omega)) ((List.zipWith (fun n p => fitB p n) ns (ptN (fi j))).map V.bl) hO hD (by rw [List.length_map, List.length_zipWith]; omega) (by omega) (fun H L' P' s m h => ⟨SqT.of (h.ptup (m _ (by walk_at "mem"))), h.psq (m _ (by walk_at "mem"))⟩) (fun i x y H9 H' P' Qx hi hY hy sp hO kq => ?_) (fun H2 P2 sp2 hO => ?_)
        · obtain ⟨t0, u, v2, rfl, hT0, rfl, e1, e2⟩ := hY
          obtain ⟨n, rfl, hn⟩ := int_get e1
          have e2 : ((ptN (fi j)).map V.str)[i]? = some v2 := e2
          rw [List.getElem?_map] at e2
          obtain ⟨q, hq, rfl⟩ := Option.map_eq_some_iff.mp e2
          rw [List.getElem?_map, List.getElem?_zipWith, hn, hq] at hy
          obtain rfl := Option.some.inj hy
          replace hO := hO.newT (vs := [.int n, .str q]) hT0 rfl
          generalize upd H9 t0 (.tup [.int n, .str q]) = H3 at hO ⊢
          have hq2 : q ∈ ptN (fi j) := List.mem_of_getElem? hq
          walk_at "go"
          intro H4 P4 sp4 hO
          exact kq _ P4 ((Ps.skip Ps.refl).trans sp4) hO
        · walk_at "go"
          refine k _ P2 ((Ps.skip (Ps.skip Ps.refl)).trans sp2) ?_
          walk_at "fin"
      · exact sl_pos (by rw [hlen]; omega)
def sp_needins (K : PySem.W.Frag) : Sp := fun vs H Q _ => ∃ (a : Addr) (j : Nat) (ns : List Int) (R : List (Addr × Ob)) (P : List Pf), vs = [.ref a] ∧ Own K H R P ∧ Pf.sq a (insV j ns) ∈ P ∧ OkI j ns ∧ ∀ H' P', Ps P P' → Own K H' R P' → Q .non H'
theorem zip_all2 {α β : Type} {f : α → β → Bool} : ∀ {as : List α} {bs : List β}, (∀ (k : Nat) (a : α) (b : β), as[k]? = some a → bs[k]? = some b → f a b = true) → (List.zipWith f as bs).all id = true
  | [], _, _ => by rw [List.zipWith_nil_left]; rfl
  | _ :: _, [], _ => by rw [List.zipWith_nil_right]; rfl
  | a :: as, b :: bs, h => by
    rw [List.zipWith_cons_cons, List.all_cons, Bool.and_eq_true]
    exact ⟨h 0 a b rfl rfl, zip_all2 fun k x y e1 e2 => h (k + 1) x y e1 e2⟩
theorem fits_ok {j : Nat} {ns : List Int} (h : OkI j ns) : fitsA j ns = true := zip_all2 fun k n p e1 e2 => decide_eq_true (h.fit k p n e2 e1)
theorem ok_need_instruction (T : Txt w K mg) : FnOk P w K mg base CX0 5 T.f_need_instruction T.fd_need_instruction ["value"] (sp_needins K) := by
  have G_is_instruction := ok_is_instruction (P := P) (w := w) (base := base) T
  refine T.F_need_instruction.ok sc_need_instruction (fun vs H Q E h => ?_) (fun cdv A outer s H vs Q E hr h => ?_)
  · obtain ⟨a, j, ns, R, P, rfl, hO, mi, hI, k⟩ := h; rfl
  · obtain ⟨a, j, ns, R, P, rfl, hO, mi, hI, k⟩ := h
    refine ⟨_, (pss_one (ps_if (pt_not (pt_val (pe_call G_is_instruction (hr.mono (by decide)) rfl T.g_is_instruction T.F_is_instruction.kp T.b_is_instruction .nil pass0 (pa_cons (pv 0) pa_nil))))
          (pss_one ps_never)
          pss_nil)), ?_⟩
    clear G_is_instruction
    clear hr
    have hk : InsOr K H P a (some (j, ns)) := ⟨mi, hI.hj, hI.len⟩
    walk_at "go"
    intro H1 P1 sp1 hO
    rw [show ansI (some (j, ns)) = true from fits_ok hI]
    walk_at "go"
    exact k _ P1 sp1 hO
def sp_enc (K : PySem.W.Frag) : Sp := fun vs H Q _ => ∃ (a : Addr) (j : Nat) (ns : List Int) (R : List (Addr × Ob)) (P : List Pf), vs = [.ref a] ∧ Own K H R P ∧ Pf.sq a (insV j ns) ∈ P ∧ OkI j ns ∧ ∀ H' P', Ps P P' → Own K H' R P' → Q (.int (wdN j ns)) H'
theorem pa_bd {i : Nat} (h : i < 7) {p : Str} (m : p ∈ ptN i) : -1000 ≤ (Hx.pa p).2.2.1 ∧ (Hx.pa p).2.2.2 ≤ 1000 := by
  have z : ∀ i < 7, (ptN i).all (fun p => decide (-1000 ≤ (Hx.pa p).2.2.1 ∧ (Hx.pa p).2.2.2 ≤ 1000)) = true := by decide +kernel
  exact of_decide_eq_true (List.all_eq_true.mp (z i h) p m)
theorem ok_bd {j : Nat} {ns : List Int} (h : OkI j ns) : ∀ n ∈ ns, -100000 ≤ n ∧ n ≤ 100000 := fun n hn => by
  obtain ⟨k, hk, rfl⟩ := List.mem_iff_getElem.mp hn
  have hk2 : k < (ptN (fi j)).length := by rw [← h.len]; exact hk
  have f := h.fit k _ _ (List.getElem?_eq_getElem hk2) (List.getElem?_eq_getElem hk)
  have b := pa_bd (fi_lt h.hj) (List.getElem_mem hk2)
  omega
theorem ok_encoded (T : Txt w K mg) : FnOk P w K mg base CX0 6 T.f_encoded T.fd_encoded ["instruction"] (sp_enc K) := by
  have G_need_instruction := ok_need_instruction (P := P) (w := w) (base := base) T
  have G__word_of := ok__word_of (P := P) (w := w) (base := base) T
  refine T.F_encoded.ok sc_encoded (fun vs H Q E h => ?_) (fun cdv A outer s H vs Q E hr h => ?_)
  · obtain ⟨a, j, ns, R, P, rfl, hO, mi, hI, k⟩ := h; rfl
  · obtain ⟨a, j, ns, R, P, rfl, hO, mi, hI, k⟩ := h
    refine ⟨_, (pss_cons (ps_expr (pe_call G_need_instruction (hr.mono (by decide)) rfl T.g_need_instruction T.F_need_instruction.kp T.b_need_instruction .nil pass0 (pa_cons (pv 0) pa_nil)))
        (pss_one (ps_ret (pe_call G__word_of (hr.mono (by decide)) rfl T.g__word_of T.F__word_of.kp T.b__word_of .nil pass0 (pa_cons (pv 0) pa_nil))))), ?_⟩
    clear G_need_instruction G__word_of
    clear hr
    have hj := hI.hj
    have hln := hI.len
    have hbd := ok_bd hI
    walk_at "go"
    intro H1 P1 sp1 hO
    replace mi := sp1 _ mi
    walk_at "go"
    intro H2 P2 sp2 hO
    exact k _ P2 (sp1.trans sp2) hO
end
end K15

set_option Elab.async false
set_option linter.all false
set_option maxRecDepth 100000
set_option maxHeartbeats 8000000

namespace K15
open PySem PySem.Spec PyProof.Rows L2 Hx 
local macro_rules | `(tactic| walk_at "sm") => `(tactic| repeat' (first | assumption | apply Hx.Same.upd | exact L2.Same.refl _ | apply same_trans'))
local macro_rules | `(tactic| walk_at "hp") => `(tactic| repeat' (first | assumption | exact upd_same | apply old_upd | apply same_at))
local macro_rules | `(tactic| walk_at "rd") => `(tactic| repeat' (first | rfl | apply Exists.intro | apply And.intro | refine iteT ?_ | refine iteF ?_ | exact upd_same | exact SqL.of (by assumption) | exact SqL.of upd_same | exact SqT.of upd_same | exact SqT.of (by assumption) | ((with_reducible show (_ : Int) < _); omega) | ((with_reducible show (_ : Int) ≤ _); omega) | (show (_ : Prop); assumption) | exact Or.inl ⟨_, by assumption, rfl⟩ | exact Or.inl ⟨rfl, _, SqL.of (by assumption)⟩ | exact Or.inl ⟨rfl, _, SqL.of upd_same⟩ | apply old_upd | apply Hx.SqL.new | apply tyl_new | apply Pot.new | exact same_at (by assumption) (by assumption) | exact Or.inl (SqL.of (by assumption)) | exact Or.inl (by assumption) | exact Or.inl (SqL.of upd_same) | exact size_le (Nat.le_of_ble_eq_true rfl) | exact Nat.le_of_ble_eq_true rfl | exact True.intro | exact Or.inl rfl | exact Or.inr rfl | (show (_ : Prop); omega) | (show (_ : Prop); dsimp only; omega) | exact mulw64 (by omega) (by omega) | exact mulw64 (by (try dsimp only); omega) (by (try dsimp only); omega)))
local macro_rules | `(tactic| walk_at "mem") => `(tactic| ((repeat (first | exact List.Mem.head _ | apply List.Mem.tail | fail)); done))
local macro_rules | `(tactic| walk_at "setat") => `(tactic| ((repeat (first | (with_reducible exact At.head) | (with_reducible apply At.tail) | (with_reducible apply At.app) | fail)); done))
set_option hygiene false in
local macro_rules | `(tactic| walk_at "dv") => `(tactic| ((repeat' (first | exact Dv.nil | exact Dv.of (by walk_at "mem") | exact Dv.ints _ | exact Dv1.of (by walk_at "mem") | exact Dv1.int _ | exact Dv1.non | exact Dv1.bl _ | exact Dv1.str _ | (with_reducible apply Dv.cons) | refine Dv1.tup (by walk_at "mem") ?_ | refine Dv1.lst (by walk_at "mem") ?_ | (with_reducible apply Dv.app) | fail)); done))
local macro_rules | `(tactic| walk_at "ft") => `(tactic| (first | (with_reducible exact Ft.refl) | ((with_reducible apply Ft.toL); focus walk_at "dv") | ((with_reducible apply Ft.toS); focus assumption) | (with_reducible apply Ft.lst) | (with_reducible apply Ft.Le) | (with_reducible apply Ft.dK) | (with_reducible apply Ft.De) | (with_reducible apply Ft.ins) | (with_reducible apply Ft.toL) | (with_reducible apply Ft.toS) | (with_reducible apply Ft.toD) | fail))
local macro_rules | `(tactic| walk_at "sbL") => `(tactic| repeat' (first | (with_reducible exact Sb.refl _) | exact Sb.nil | (with_reducible apply Sb.cons) | (with_reducible apply Sb.app) | (with_reducible exact Pk.one) | (with_reducible exact Pk.here) | (with_reducible exact Pk.all) | (with_reducible apply Pk.skip1) | (with_reducible apply Pk.skipB) | (with_reducible apply Sb.skip) | (with_reducible apply Sb.skipB) | ((with_reducible show Ft _ _ _ _); walk_at "ft") | ((with_reducible show (_ : List _) = _); (first | rfl | (simp [List.map_set, List.map_append]; done) | fail)) | fail))
local macro_rules | `(tactic| walk_at "sb") => `(tactic| ((walk_at "sbL"); done))
local macro_rules | `(tactic| walk_at "ps") => `(tactic| ((repeat' (first | (with_reducible exact Ps.refl) | exact Ps.nil | (with_reducible apply Ps.cons) | exact List.Mem.head _ | apply List.Mem.tail | (with_reducible apply Ps.skip) | fail)); done))
set_option hygiene false in
local macro_rules | `(tactic| walk_at "at") => `(tactic| first | assumption | exact Own.raw hO (by walk_at "mem") | exact Own.ptup hO (by walk_at "mem") | exact Own.plst hO (by walk_at "mem") | fail)
set_option hygiene false in
local macro_rules | `(tactic| walk_at "st") => `(tactic| (rw [upd_mkO hO]; generalize e : updX _ _ _ = H1; (first | ((apply Own.cset hO e); (focus walk_at "setat"); (try clear hO e); intro hO) | ((apply Own.cnewT hO e); (focus assumption); (try clear hO e); intro hO) | ((apply Own.cnew hO e); (focus assumption); (try clear hO e); intro hO) | fail)))
set_option hygiene false in
local macro_rules | `(tactic| walk_at "mk") => `(tactic| (intro p1 p2 f1 f2 f3; rw [upd_mkO hO]; generalize e : upd (updX _ _ _) _ _ = H1; apply Own.cmake hO f1 f2 f3 e; (try clear hO e); intro hO))
set_option hygiene false in
local macro_rules | `(tactic| walk_at "own") => `(tactic| (first | ((apply Own.sub hO); (focus walk_at "sb"); (focus walk_at "ps")) | ((apply Own.sub hF); (focus walk_at "sb"); (focus walk_at "ps")) | fail))
set_option hygiene false in
local macro_rules | `(tactic| walk_at "fin") => `(tactic| (refine Own.sub hO ?_ (by walk_at "ps"); walk_at "sbL"))
set_option hygiene false in
local macro_rules | `(tactic| walk_at "g1") => `(tactic| (first
 | ((with_reducible show (_ : Option HO) = _); walk_at "at")
 | ((with_reducible show (_ : Int) < _); omega) | ((with_reducible show (_ : Int) ≤ _); omega)
 | ((with_reducible show (_ : Nat) < _); (first | assumption | exact Nat.le_of_ble_eq_true rfl | exact size_lt (Nat.le_of_ble_eq_true rfl) | omega | (simp; done) | (simp; omega) | fail))
 | ((with_reducible show (_ : Nat) ≤ _); (first | assumption | exact Nat.le_of_ble_eq_true rfl | exact size_le (Nat.le_of_ble_eq_true rfl) | omega | (simp; done) | (simp; omega) | fail))
 | ((with_reducible show (_ : Pf) ∈ _); (first | assumption | (focus walk_at "mem") | ((repeat (with_reducible apply List.mem_cons_of_mem)); assumption) | fail))
 | ((with_reducible show Own _ _ _ _); (first | walk_at "own" | (walk_at "st"; walk_at "own") | fail))
 | ((with_reducible show SqL _ _ _ _); (first | assumption | exact SqL.of (by walk_at "at") | fail))
 | ((with_reducible show SqT _ _ _ _); (first | assumption | exact hO.psq (by walk_at "mem") | exact hO.psq (by assumption) | exact SqT.of (by walk_at "at") | fail))
   | ((with_reducible show V.ref _ = V.ref _); (first | rfl | fail))
 | ((with_reducible show DGet _ _ _ _); (first | exact DGet.ki (by walk_at "at") (by assumption) | exact DGet.kiF (by walk_at "at") (by assumption) | fail))
 | ((with_reducible show DPut _ _ _ _ _); exact DPut.ki (by walk_at "at") (by assumption))
 | ((with_reducible show Rd _ _ _); (first | exact Or.inl (by walk_at "at") | exact Or.inr ⟨_, by walk_at "at"⟩ | fail))
 | ((with_reducible show (∃ _ : List (Key × V), _) ∨ _); refine Or.inl ⟨_, by walk_at "at", ?_⟩)
 | ((with_reducible show Dv _ _ _ _); focus walk_at "dv") | ((with_reducible show Dv1 _ _ _ _); focus walk_at "dv")
 | ((with_reducible show IsD _ _); exact Or.inl ⟨_, Or.inl (by walk_at "at")⟩)
 | ((with_reducible show V.int _ = kV _); exact kV_int)
 | ((with_reducible show Option.isSome _ = true); (first | exact isSome_ofV (by assumption) | assumption | fail))
 | ((with_reducible show SqL _ _ _ _ ∨ SqT _ _ _ _); (first | exact Or.inl (by assumption) | exact Or.inr (by assumption) | exact Or.inl (SqL.of (by walk_at "at")) | exact Or.inr (SqT.of (by walk_at "at")) | fail))
 | ((with_reducible show Dp _ _ _ _); (first | assumption | exact hO.dpL (by walk_at "mem") | exact .lst (SqL.of (by walk_at "at")) (hO.all (by walk_at "dv")) | exact hO.one (by walk_at "dv") | fail))
 | ((with_reducible show TruV _ _ _ _); (first | exact Or.inl ⟨_, SqL.of (by walk_at "at"), rfl⟩ | exact Or.inr (Or.inr ⟨_, by walk_at "at", rfl⟩) | exact Or.inr (Or.inl ⟨_, SqT.of (by walk_at "at"), rfl⟩) | fail))
 | ((with_reducible show RgOk _ _); exact RgOk.of_le (by omega) (by omega) (by omega) (by omega))
 | rfl | (with_reducible assumption) | apply And.intro | apply Exists.intro | refine iteT ?_ | refine iteF ?_
 | (walk_at "st"; (try walk_at "fl"))
 | ((with_reducible show ∀ _ : Addr, _ = none → _); (fail_if_success (with_reducible show ∀ _ : Addr, _ = none → ∃ _ : Nat → Nat → Hp → Prop, _)); intro p fp; walk_at "st")
 | (refine Or.inl ⟨SqL.of (by walk_at "at"), ?_⟩) | (refine Or.inr ⟨SqT.of (by walk_at "at"), ?_⟩) | exact Or.inl ⟨_, by walk_at "at", rfl⟩ | exact Or.inl ⟨rfl, _, SqL.of (by walk_at "at")⟩ | exact tyl_of (by walk_at "at") | exact Or.inl (SqL.of (by walk_at "at")) | exact Or.inr (SqT.of (by walk_at "at")) | exact Or.inl (by walk_at "at") | exact size_le (Nat.le_of_ble_eq_true rfl) | exact Nat.le_of_ble_eq_true rfl | exact True.intro | exact Or.inl rfl | exact Or.inr rfl | (show (_ : Prop); assumption) | (show (_ : Prop); omega) | (show (_ : Prop); dsimp only; omega) | exact mulw64 (by omega) (by omega) | exact mulw64 (by (try dsimp only); omega) (by (try dsimp only); omega) | fail))
local macro_rules | `(tactic| walk_at "go") => `(tactic| repeat walk_at "g1")

section
variable {P : Program} {w : World} {K : PySem.W.Frag} {mg : Str → Option Value} {base : Heap}
/-- the number of a part in a word -/
def nuN (w : Int) (p : Str) : Int := if (Hx.pa p).2.2.1 < 0 ∧ w / 2 ^ (Hx.pa p).1.toNat % (1 * 2 ^ (Hx.pa p).2.1.toNat) > (Hx.pa p).2.2.2 then w / 2 ^ (Hx.pa p).1.toNat % (1 * 2 ^ (Hx.pa p).2.1.toNat) - 1 * 2 ^ (Hx.pa p).2.1.toNat else w / 2 ^ (Hx.pa p).1.toNat % (1 * 2 ^ (Hx.pa p).2.1.toNat)
def sp_numat (K : PySem.W.Frag) : Sp := fun vs H Q _ => ∃ (i : Nat) (n : Int) (p : Str) (R : List (Addr × Ob)) (P : List Pf), vs = [.int n, .str p] ∧ Own K H R P ∧ i < 7 ∧ p ∈ ptN i ∧ (0 ≤ n ∧ n < 65536) ∧ ∀ H' P', Ps P P' → Own K H' R P' → Q (.int (nuN n p)) H'
theorem ok__number_at (T : Txt w K mg) : FnOk P w K mg base CX0 1 T.f__number_at T.fd__number_at ["word", "part"] (sp_numat K) := by
  refine T.F__number_at.ok sc__number_at (fun vs H Q E h => ?_) (fun cdv A outer s H vs Q E hr h => ?_)
  · obtain ⟨i, n, p, R, P, rfl, hO, hi, hp, hn, k⟩ := h; rfl
  · obtain ⟨i, n, p, R, P, rfl, hO, hi, hp, hn, k⟩ := h
    refine ⟨_, (pss_cons (ps_asg (pe_ix (ix_tab T.t_pa) (pe_glob (v := .ref T.D_pa) rfl T.g_pa rfl) (pv 1) (fun _ _ => rfl)) (pg_tup rfl (pgs_cons (pg_name (i := 2) sc__number_at.nd rfl (Or.inl rfl)) (pgs_cons (pg_name (i := 3) sc__number_at.nd rfl (Or.inl rfl)) (pgs_cons (pg_name (i := 4) sc__number_at.nd rfl (Or.inl rfl)) (pgs_cons (pg_name (i := 5) sc__number_at.nd rfl (Or.inl rfl)) pgs_nil))))))
        (pss_cons (ps_set (i := 6) sc__number_at.nd rfl (Or.inl rfl) (pe_op op_mod (pe_op op_shr (pv 0) (pv 2)) (pe_op op_shl pe_int (pv 3))))
        (pss_cons (ps_if (PW.pt (pw_and (pt_cmpR op_lt (pv 4) pe_int (nomark _)) (pw_and1 (pt_cmpR op_gt (pv 6) (pv 5) (nomark _)))))
          (pss_one (ps_ret (pe_op op_sub (pv 6) (pe_op op_shl pe_int (pv 3)))))
          pss_nil)
        (pss_one (ps_ret (pv 6)))))), ?_⟩
    clear hr
    have hm := paT_mem hi hp
    have hb := pa_lm hi hp
    unfold nuN at k
    generalize Hx.pa p = z at hm hb k
    obtain ⟨lo, mb, mn, mx⟩ := z
    dsimp only at hm hb k
    have hw := pw_le hb.2
    walk_at "go"
    intro v hv
    obtain ⟨t, rfl, hO⟩ := hO.opn (fun M _ => hv M)
    walk_at "go"
    refine iteD (fun h1 => ?_) (fun h1 => ?_)
    · walk_at "go"
      refine iteD (fun h2 => ?_) (fun h2 => ?_)
      · rw [if_pos ⟨h1, h2⟩] at k
        walk_at "go"
        exact k _ _ (Ps.skip Ps.refl) hO
      · rw [if_neg (fun h => h2 h.2)] at k
        walk_at "go"
        exact k _ _ (Ps.skip Ps.refl) hO
    · rw [if_neg (fun h => h1 h.1)] at k
      walk_at "go"
      exact k _ _ (Ps.skip Ps.refl) hO
/-- the numbers that a word tells for a name -/
def nsW (w : Int) (j : Nat) : List Int := (ptN (fi j)).map (nuN w)
/-- the instruction of a word -/
def decI (w : Int) : Option (Nat × List Int) := if 1 ≤ w / 2048 ∧ w / 2048 ≤ 26 then (if fitsA (w / 2048 - 1).toNat (nsW w (w / 2048 - 1).toNat) = true ∧ wdN (w / 2048 - 1).toNat (nsW w (w / 2048 - 1).toNat) = w then some ((w / 2048 - 1).toNat, nsW w (w / 2048 - 1).toNat) else none) else none
def sp_dec (K : PySem.W.Frag) : Sp := fun vs H Q _ => ∃ (w : Int) (R : List (Addr × Ob)) (P : List Pf), vs = [.int w] ∧ Own K H R P ∧ (0 ≤ w ∧ w < 65536) ∧ (decI w = none → ∀ H' P', Ps P P' → Own K H' R P' → Q .non H') ∧ (∀ j ns, decI w = some (j, ns) → ∀ (a : Addr) H' P', Ps P P' → Pf.sq a (insV j ns) ∈ P' → Own K H' R P' → Q (.ref a) H')
theorem nu_bd {w : Int} (hw : 0 ≤ w ∧ w < 65536) {i : Nat} (h : i < 7) {p : Str} (m : p ∈ ptN i) : -256 ≤ nuN w p ∧ nuN w p ≤ 256 := by
  have hb := pa_lm h m
  unfold nuN
  generalize Hx.pa p = z at hb
  obtain ⟨lo, mb, mn, mx⟩ := z
  dsimp only at hb ⊢
  have hp := pw_le hb.2
  have m0 := Int.emod_nonneg (w / 2 ^ lo.toNat) (b := 1 * 2 ^ mb.toNat) (by omega)
  have m1 := Int.emod_lt_of_pos (w / 2 ^ lo.toNat) hp.1
  split <;> omega
theorem ok_decoded (T : Txt w K mg) : FnOk P w K mg base CX0 5 T.f_decoded T.fd_decoded ["word"] (sp_dec K) := by
  have G_need_word := ok_need_word (P := P) (w := w) (base := base) T
  have G_operations := ok_operations (P := P) (w := w) (base := base) T
  have G__form_of := ok__form_of (P := P) (w := w) (base := base) T
  have G__number_at := ok__number_at (P := P) (w := w) (base := base) T
  have G__word_of := ok__word_of (P := P) (w := w) (base := base) T
  have G_is_instruction := ok_is_instruction (P := P) (w := w) (base := base) T
  refine T.F_decoded.ok sc_decoded (fun vs H Q E h => ?_) (fun cdv A outer s H vs Q E hr h => ?_)
  · obtain ⟨w0, R, P, rfl, hO, hw, k0, k1⟩ := h; rfl
  · obtain ⟨w0, R, P, rfl, hO, hw, k0, k1⟩ := h
    refine ⟨_, (pss_cons (ps_expr (pe_call G_need_word (hr.mono (by decide)) rfl T.g_need_word T.F_need_word.kp T.b_need_word .nil pass0 (pa_cons (pv 0) pa_nil)))
        (pss_cons (ps_set (i := 1) sc_decoded.nd rfl (Or.inl rfl) (pe_op op_shr (pv 0) (pe_gint rfl T.c__NUMBER_BIT)))
        (pss_cons (ps_if (pt_not (pt_chain op_le op_le pe_int (pv 1) (pe_callB (call_lenTab T.q_op) (by rfl) T.m_len (by decide +kernel) (pa_cons (pe_glob (v := .ref T.D_op) rfl T.g_op rfl) pa_nil))))
          (pss_one (ps_ret pe_non))
          pss_nil)
        (pss_cons (ps_set (i := 2) sc_decoded.nd rfl (Or.inl rfl) (pe_ix ix_list (pe_call0 G_operations (hr.mono (by decide)) rfl T.g_operations T.F_operations.kp T.b_operations .nil pass0) (pe_op op_sub (pv 1) pe_int) (fun _ _ => rfl)))
        (pss_cons (ps_setLc (i := 3) (own := [("part", 5)]) (g := gName 5)  rfl sc_decoded.nd rfl rfl (sw_true rfl rfl rfl (by decide +kernel)) (pi_tup (pe_ix (ix_tab T.t_fo) (pe_glob (v := .ref T.D_fo) rfl T.g_fo rfl) (pe_call G__form_of (hr.mono (by decide)) rfl T.g__form_of T.F__form_of.kp T.b__form_of .nil pass0 (pa_cons (pv 2) pa_nil)) (fun _ _ => rfl))) (blkOk_by (N := ["word", "number", "name", "numbers", "found", "part"]) (sc := defScope s_decoded) (by decide +kernel)) (fun _ _ _ _ _ => pg_name (i := 5) sc_decoded.nd rfl (Or.inl rfl)) (fun _ _ _ _ _ => pts_nil) (fun _ _ _ _ _ => (pe_call G__number_at (hr.mono (by decide)) rfl T.g__number_at T.F__number_at.kp T.b__number_at .nil pass0 (pa_cons (pv 0) (pa_cons (pv 5) pa_nil)))))
        (pss_cons (ps_set (i := 4) sc_decoded.nd rfl (Or.inl rfl) (pe_mid (pe_tup (pa_cons (pv 2) (StX.pa_star (pv 3) pa_nil)))))
        (pss_cons (ps_if (PW.pt (pw_and (pt_val (pe_call G_is_instruction (hr.mono (by decide)) rfl T.g_is_instruction T.F_is_instruction.kp T.b_is_instruction .nil pass0 (pa_cons (pv 4) pa_nil))) (pw_and1 (pt_cmpR op_eq (pe_call G__word_of (hr.mono (by decide)) rfl T.g__word_of T.F__word_of.kp T.b__word_of .nil pass0 (pa_cons (pv 4) pa_nil)) (pv 0) (nomark _)))))
          (pss_one (ps_ret (pv 4)))
          pss_nil)
        (pss_one (ps_ret pe_non))))))))), ?_⟩
    clear G_need_word G_operations G__form_of G__number_at G__word_of G_is_instruction
    clear hr
    have hnl : nmL.length = 26 := by decide +kernel
    have e11 : (2 : Int) ^ (11 : Int).toNat = 2048 := by decide
    walk_at "go"
    rw [e11]
    refine iteD (fun h1 => ?_) (fun h1 => ?_)
    · walk_at "go"
      by_cases h2 : w0 / 2048 ≤ ((nmL.length : Nat) : Int)
      · rw [show decide ((w0 / 2 ^ (11 : Int).toNat) ≤ ((nmL.length : Nat) : Int)) = true from by rw [e11]; exact decide_eq_true h2]
        have h3 : w0 / 2048 ≤ 26 := by
          rw [hnl] at h2
          exact h2
        obtain ⟨j, ej⟩ : ∃ j : Nat, w0 / 2048 - 1 = (j : Int) := ⟨(w0 / 2048 - 1).toNat, by omega⟩
        have hj : j < 26 := by omega
        have hi7 := fi_lt hj
        have hpl := ptN_le hi7
        have hfm := foT_mem hi7
        have hjt : (w0 / 2048 - 1).toNat = j := by omega
        have hdec : decI w0 = if fitsA j (nsW w0 j) = true ∧ wdN j (nsW w0 j) = w0 then some (j, nsW w0 j) else none := by
          unfold decI
          rw [if_pos ⟨h1, h3⟩, hjt]
        have ad : atI (nmL.map V.str) (w0 / 2048 - 1) = some (.str (nm j)) := by
          rw [ej]
          refine atI_nat ?_
          rw [List.getElem?_map, nm, List.getD_eq_getElem?_getD, List.getElem?_eq_getElem (by omega)]; rfl
        have hsl : (nsW w0 j).length = (ptN (fi j)).length := List.length_map _
        walk_at "go"
        intro p H1 hO
        walk_at "go"
        intro v hv
        obtain ⟨t, rfl, hO⟩ := hO.opnS (fun M _ => hv M)
        walk_at "go"
        intro D hD
        refine lc_rawW (by rw [hsl, ← List.length_map (f := V.str)]; exact walk_tup (xs := (ptN (fi j)).map V.str)) (n := (nsW w0 j).length) ((nsW w0 j).map V.int) hO hD (by rw [List.length_map]) (by omega) (fun H L' P' s m h => h.psq (m _ (by walk_at "mem"))) (fun i x y H9 H' P' Qx hi hY hy sp hO kq => ?_) (fun H2 P2 sp2 hO => ?_)
        · obtain ⟨rfl, hvx⟩ := hY
          rw [List.getElem?_map] at hvx
          obtain ⟨q, hq, rfl⟩ := Option.map_eq_some_iff.mp hvx
          rw [List.getElem?_map, nsW, List.getElem?_map, hq] at hy
          obtain rfl := Option.some.inj hy
          have hq2 : q ∈ ptN (fi j) := List.mem_of_getElem? hq
          walk_at "go"
        · walk_at "go"
          refine Stop.mk ⟨MidT K R P2 (insV j (nsW w0 j)), ?_, fun v H' hM => ?_⟩
          · have hor : SqT K H2 D ((nsW w0 j).map V.int) ∨ SqL K H2 D ((nsW w0 j).map V.int) := Or.inr (SqL.of (hO.raw (by walk_at "mem")))
            have szz : (V.str (nm j) :: ((nsW w0 j).map V.int ++ [])).length ≤ sizeLine := size_le (by rw [List.append_nil, List.length_cons, List.length_map]; omega)
            walk_at "go"
            have hO2 := Own.sub (L' := R) hO (by walk_at "sbL") Ps.refl
            rw [List.append_nil] at hO2
            exact MidT.tup hO2 Ps.refl
          clear hO
          obtain ⟨q, P3, rfl, sp3, mq, hO⟩ := hM.ex
          clear hM
          have hk : InsOr K H' P3 q (some (j, nsW w0 j)) := ⟨mq, hj, hsl⟩
          have hnb : ∀ n ∈ nsW w0 j, -100000 ≤ n ∧ n ≤ 100000 := fun n hn => by
            obtain ⟨pp, hp, rfl⟩ := List.mem_map.mp hn
            have := nu_bd hw hi7 hp
            omega
          have spP : Ps P P3 := (Ps.skip Ps.refl).trans (sp2.trans sp3)
          walk_at "go"
          intro H4 P4 sp4 hO
          rw [show ansI (some (j, nsW w0 j)) = fitsA j (nsW w0 j) from rfl]
          replace mq := sp4 _ mq
          cases hf : fitsA j (nsW w0 j) with
          | true =>
            walk_at "go"
            intro H5 P5 sp5 hO
            walk_at "go"
            refine iteD (fun h => ?_) (fun h => ?_)
            · have e := V.int.inj h
              walk_at "go"
              exact k1 j _ (by rw [hdec, if_pos ⟨hf, e⟩]) q _ P5 (spP.trans (sp4.trans sp5)) (sp5 _ mq) hO
            · walk_at "go"
              exact k0 (by rw [hdec, if_neg (fun z => h (congrArg V.int z.2))]) _ P5 (spP.trans (sp4.trans sp5)) hO
          | false =>
            walk_at "go"
            exact k0 (by rw [hdec, if_neg (fun z => by rw [hf] at z; exact absurd z.1 (by decide))]) _ P4 (spP.trans sp4) hO
      · have hd : decI w0 = none := by
          unfold decI
          rw [if_neg]
          intro h
          rw [hnl] at h2
          exact h2 h.2
        rw [show decide ((w0 / 2 ^ (11 : Int).toNat) ≤ ((nmL.length : Nat) : Int)) = false from by rw [e11]; exact decide_eq_false h2]
        walk_at "go"
        exact k0 hd _ _ Ps.refl hO
    · have hd : decI w0 = none := by
        unfold decI
        rw [if_neg (fun h => h1 h.1)]
      walk_at "go"
      exact k0 hd _ _ Ps.refl hO
end
end K15

set_option Elab.async false
set_option linter.all false
set_option maxRecDepth 100000
set_option maxHeartbeats 8000000

namespace K15
open PySem PySem.Spec PyProof.Rows L2 Hx 
local macro_rules | `(tactic| walk_at "sm") => `(tactic| repeat' (first | assumption | apply Hx.Same.upd | exact L2.Same.refl _ | apply same_trans'))
local macro_rules | `(tactic| walk_at "hp") => `(tactic| repeat' (first | assumption | exact upd_same | apply old_upd | apply same_at))
local macro_rules | `(tactic| walk_at "rd") => `(tactic| repeat' (first | rfl | apply Exists.intro | apply And.intro | refine iteT ?_ | refine iteF ?_ | exact upd_same | exact SqL.of (by assumption) | exact SqL.of upd_same | exact SqT.of upd_same | exact SqT.of (by assumption) | ((with_reducible show (_ : Int) < _); omega) | ((with_reducible show (_ : Int) ≤ _); omega) | (show (_ : Prop); assumption) | exact Or.inl ⟨_, by assumption, rfl⟩ | exact Or.inl ⟨rfl, _, SqL.of (by assumption)⟩ | exact Or.inl ⟨rfl, _, SqL.of upd_same⟩ | apply old_upd | apply Hx.SqL.new | apply tyl_new | apply Pot.new | exact same_at (by assumption) (by assumption) | exact Or.inl (SqL.of (by assumption)) | exact Or.inl (by assumption) | exact Or.inl (SqL.of upd_same) | exact size_le (Nat.le_of_ble_eq_true rfl) | exact Nat.le_of_ble_eq_true rfl | exact True.intro | exact Or.inl rfl | exact Or.inr rfl | (show (_ : Prop); omega) | (show (_ : Prop); dsimp only; omega) | exact mulw64 (by omega) (by omega) | exact mulw64 (by (try dsimp only); omega) (by (try dsimp only); omega)))
local macro_rules | `(tactic| walk_at "mem") => `(tactic| ((repeat (first | exact List.Mem.head _ | apply List.Mem.tail | fail)); done))
local macro_rules | `(tactic| walk_at "setat") => `(tactic| ((repeat (first | (with_reducible exact At.head) | (with_reducible apply At.tail) | (with_reducible apply At.app) | fail)); done))
set_option hygiene false in
local macro_rules | `(tactic| walk_at "dv") => `(tactic| ((repeat' (first | exact Dv.nil | exact Dv.of (by walk_at "mem") | exact Dv.ints _ | exact Dv1.of (by walk_at "mem") | exact Dv1.int _ | exact Dv1.non | exact Dv1.bl _ | exact Dv1.str _ | (with_reducible apply Dv.cons) | refine Dv1.tup (by walk_at "mem") ?_ | refine Dv1.lst (by walk_at "mem") ?_ | (with_reducible apply Dv.app) | fail)); done))
local macro_rules | `(tactic| walk_at "ft") => `(tactic| (first | (with_reducible exact Ft.refl) | ((with_reducible apply Ft.toL); focus walk_at "dv") | ((with_reducible apply Ft.toS); focus assumption) | (with_reducible apply Ft.lst) | (with_reducible apply Ft.Le) | (with_reducible apply Ft.dK) | (with_reducible apply Ft.De) | (with_reducible apply Ft.ins) | (with_reducible apply Ft.toL) | (with_reducible apply Ft.toS) | (with_reducible apply Ft.toD) | fail))
local macro_rules | `(tactic| walk_at "sbL") => `(tactic| repeat' (first | (with_reducible exact Sb.refl _) | exact Sb.nil | (with_reducible apply Sb.cons) | (with_reducible apply Sb.app) | (with_reducible exact Pk.one) | (with_reducible exact Pk.here) | (with_reducible exact Pk.all) | (with_reducible apply Pk.skip1) | (with_reducible apply Pk.skipB) | (with_reducible apply Sb.skip) | (with_reducible apply Sb.skipB) | ((with_reducible show Ft _ _ _ _); walk_at "ft") | ((with_reducible show (_ : List _) = _); (first | rfl | (simp [List.map_set, List.map_append]; done) | fail)) | fail))
local macro_rules | `(tactic| walk_at "sb") => `(tactic| ((walk_at "sbL"); done))
local macro_rules | `(tactic| walk_at "ps") => `(tactic| ((repeat' (first | (with_reducible exact Ps.refl) | exact Ps.nil | (with_reducible apply Ps.cons) | exact List.Mem.head _ | apply List.Mem.tail | (with_reducible apply Ps.skip) | fail)); done))
set_option hygiene false in
local macro_rules | `(tactic| walk_at "at") => `(tactic| first | assumption | exact Own.raw hO (by walk_at "mem") | exact Own.ptup hO (by walk_at "mem") | exact Own.plst hO (by walk_at "mem") | fail)
set_option hygiene false in
local macro_rules | `(tactic| walk_at "st") => `(tactic| (rw [upd_mkO hO]; generalize e : updX _ _ _ = H1; (first | ((apply Own.cset hO e); (focus walk_at "setat"); (try clear hO e); intro hO) | ((apply Own.cnewT hO e); (focus assumption); (try clear hO e); intro hO) | ((apply Own.cnew hO e); (focus assumption); (try clear hO e); intro hO) | fail)))
set_option hygiene false in
local macro_rules | `(tactic| walk_at "mk") => `(tactic| (intro p1 p2 f1 f2 f3; rw [upd_mkO hO]; generalize e : upd (updX _ _ _) _ _ = H1; apply Own.cmake hO f1 f2 f3 e; (try clear hO e); intro hO))
set_option hygiene false in
local macro_rules | `(tactic| walk_at "own") => `(tactic| (first | ((apply Own.sub hO); (focus walk_at "sb"); (focus walk_at "ps")) | ((apply Own.sub hF); (focus walk_at "sb"); (focus walk_at "ps")) | fail))
set_option hygiene false in
local macro_rules | `(tactic| walk_at "fin") => `(tactic| (refine Own.sub hO ?_ (by walk_at "ps"); walk_at "sbL"))
set_option hygiene false in
local macro_rules | `(tactic| walk_at "g1") => `(tactic| (first
 | ((with_reducible show (_ : Option HO) = _); walk_at "at")
 | ((with_reducible show (_ : Int) < _); omega) | ((with_reducible show (_ : Int) ≤ _); omega)
 | ((with_reducible show (_ : Nat) < _); (first | assumption | exact Nat.le_of_ble_eq_true rfl | exact size_lt (Nat.le_of_ble_eq_true rfl) | omega | (simp; done) | (simp; omega) | fail))
 | ((with_reducible show (_ : Nat) ≤ _); (first | assumption | exact Nat.le_of_ble_eq_true rfl | exact size_le (Nat.le_of_ble_eq_true rfl) | omega | (simp; done) | (simp; omega) | fail))
 | ((with_reducible show (_ : Pf) ∈ _); (first | assumption | (focus walk_at "mem") | ((repeat (with_reducible apply List.mem_cons_of_mem)); assumption) | fail))
 | ((with_reducible show Own _ _ _ _); (first | walk_at "own" | (walk_at "st"; walk_at "own") | fail))
 | ((with_reducible show SqL _ _ _ _); (first | assumption | exact SqL.of (by walk_at "at") | fail))
 | ((with_reducible show SqT _ _ _ _); (first | assumption | exact hO.psq (by walk_at "mem") | exact hO.psq (by assumption) | exact SqT.of (by walk_at "at") | fail))
   | ((with_reducible show V.ref _ = V.ref _); (first | rfl | fail))
 | ((with_reducible show DGet _ _ _ _); (first | exact DGet.ki (by walk_at "at") (by assumption) | exact DGet.kiF (by walk_at "at") (by assumption) | fail))
 | ((with_reducible show DPut _ _ _ _ _); exact DPut.ki (by walk_at "at") (by assumption))
 | ((with_reducible show Rd _ _ _); (first | exact Or.inl (by walk_at "at") | exact Or.inr ⟨_, by walk_at "at"⟩ | fail))
 | ((with_reducible show (∃ _ : List (Key × V), _) ∨ _); refine Or.inl ⟨_, by walk_at "at", ?_⟩)
 | ((with_reducible show Dv _ _ _ _); focus walk_at "dv") | ((with_reducible show Dv1 _ _ _ _); focus walk_at "dv")
 | ((with_reducible show IsD _ _); exact Or.inl ⟨_, Or.inl (by walk_at "at")⟩)
 | ((with_reducible show V.int _ = kV _); exact kV_int)
 | ((with_reducible show Option.isSome _ = true); (first | exact isSome_ofV (by assumption) | assumption | fail))
 | ((with_reducible show SqL _ _ _ _ ∨ SqT _ _ _ _); (first | exact Or.inl (by assumption) | exact Or.inr (by assumption) | exact Or.inl (SqL.of (by walk_at "at")) | exact Or.inr (SqT.of (by walk_at "at")) | fail))
 | ((with_reducible show Dp _ _ _ _); (first | assumption | exact hO.dpL (by walk_at "mem") | exact .lst (SqL.of (by walk_at "at")) (hO.all (by walk_at "dv")) | exact hO.one (by walk_at "dv") | fail))
 | ((with_reducible show TruV _ _ _ _); (first | exact Or.inl ⟨_, SqL.of (by walk_at "at"), rfl⟩ | exact Or.inr (Or.inr ⟨_, by walk_at "at", rfl⟩) | exact Or.inr (Or.inl ⟨_, SqT.of (by walk_at "at"), rfl⟩) | fail))
 | ((with_reducible show RgOk _ _); exact RgOk.of_le (by omega) (by omega) (by omega) (by omega))
 | rfl | (with_reducible assumption) | apply And.intro | apply Exists.intro | refine iteT ?_ | refine iteF ?_
 | (walk_at "st"; (try walk_at "fl"))
 | ((with_reducible show ∀ _ : Addr, _ = none → _); (fail_if_success (with_reducible show ∀ _ : Addr, _ = none → ∃ _ : Nat → Nat → Hp → Prop, _)); intro p fp; walk_at "st")
 | (refine Or.inl ⟨SqL.of (by walk_at "at"), ?_⟩) | (refine Or.inr ⟨SqT.of (by walk_at "at"), ?_⟩) | exact Or.inl ⟨_, by walk_at "at", rfl⟩ | exact Or.inl ⟨rfl, _, SqL.of (by walk_at "at")⟩ | exact tyl_of (by walk_at "at") | exact Or.inl (SqL.of (by walk_at "at")) | exact Or.inr (SqT.of (by walk_at "at")) | exact Or.inl (by walk_at "at") | exact size_le (Nat.le_of_ble_eq_true rfl) | exact Nat.le_of_ble_eq_true rfl | exact True.intro | exact Or.inl rfl | exact Or.inr rfl | (show (_ : Prop); assumption) | (show (_ : Prop); omega) | (show (_ : Prop); dsimp only; omega) | exact mulw64 (by omega) (by omega) | exact mulw64 (by (try dsimp only); omega) (by (try dsimp only); omega) | fail))
local macro_rules | `(tactic| walk_at "go") => `(tactic| repeat walk_at "g1")

section
variable {P : Program} {w : World} {K : PySem.W.Frag} {mg : Str → Option Value} {base : Heap}
def sp_Lpot (K : PySem.W.Frag) : Sp := fun vs H Q _ => ∃ (a : Addr) (ns : List Int), vs = [.ref a, .int 0] ∧ SqL K H a (ns.map V.int) ∧ ns.length ≤ 63 ∧ ∀ p (H' : Hp), Own K H' (pt p ++ []) [] → Q (.ref p) H'
theorem ok_Lpot (T : Txt w K mg) : FnOk P w K mg base CX0 1 T.f_Lpot T.fd_Lpot ["_law_script", "_law_k"] (sp_Lpot K) := by
  refine T.F_Lpot.ok sc_Lpot (fun vs H Q E h => ?_) (fun cdv A outer s H vs Q E hr h => ?_)
  · obtain ⟨a, ns, rfl, hS, hl, k⟩ := h; rfl
  · obtain ⟨a, ns, rfl, hS, hl, k⟩ := h
    refine ⟨_, (pss_cons (ps_set (i := 2) sc_Lpot.nd rfl (Or.inl rfl) (pe_ifExp (pt_cmpR op_lt (pv 1) (pe_callB call_len_list (by rfl) T.m_len (by decide +kernel) (pa_cons (pv 0) pa_nil)) (nomark _)) (pe_callB call_abs (by rfl) T.m_abs (by decide +kernel) (pa_cons (pe_ix ix_list (pv 0) (pv 1) (fun _ _ => rfl)) pa_nil)) (pe_op op_add (pe_op op_mulW pe_int (pv 1)) pe_int)))
        (pss_one (ps_ret (pe_lst (pa_cons (pe_callB (call_max2 rfl) (by rfl) T.m_max (by decide +kernel) (pa_cons pe_int (pa_cons (pe_op op_sub (pv 2) (pe_op op_pow pe_int pe_int)) pa_nil))) (pa_cons (pe_op op_add (pe_op op_mod (pe_callTy call_int1i (by rfl) T.m_int (by decide +kernel) (pa_cons (pe_op op_add (pe_op op_add (pe_op op_mulW (pe_op op_mod (pe_callTy call_int1i (by rfl) T.m_int (by decide +kernel) (pa_cons (pv 2) pa_nil)) pe_int) pe_int) (pe_op op_mulW pe_int (pv 1))) pe_int) pa_nil)) pe_int) pe_int) pa_nil)))))), ?_⟩
    clear hr
    simp only [pt, List.cons_append, List.nil_append] at k
    have hO : Own K H [] [] := Own.start
    walk_at "go"
    refine iteD (fun h => ?_) (fun h => ?_)
    · obtain ⟨v, hv, hm⟩ := pick_at (xs := ns.map V.int) (d := 0) (by omega) (by simpa using h)
      obtain ⟨z, _, rfl⟩ := List.mem_map.mp hm
      walk_at "go"
      apply k
      walk_at "fin"
      exact ⟨_, _, rfl, by split <;> omega, by omega, by omega⟩
    · walk_at "go"
      apply k
      walk_at "fin"
      exact ⟨_, _, rfl, by split <;> omega, by omega, by omega⟩

theorem ok_Ldraw (T : Txt w K mg) : FnOk P w K mg base CX0 1 T.f_Ldraw T.fd_Ldraw ["_law_pot_here", "_law_size"] (spDrw K) := by
  refine T.F_Ldraw.ok sc_Ldraw (fun vs H Q E h => ?_) (fun cdv A outer s H vs Q E hr h => ?_)
  · obtain ⟨a, n, R, P, rfl, hO, hn, hn2, k⟩ := h; rfl
  · obtain ⟨a, n, R, P, rfl, hO, hn, hn2, k⟩ := h
    refine ⟨_, (pss_cons (ps_if (pt_cmpR op_gt (pe_ix ix_list (pv 0) pe_int (fun _ _ => rfl)) pe_int (nomark _))
          (pss_cons (ps_asg (pe_callB call_divmod (by rfl) T.m_divmod (by decide +kernel) (pa_cons (pe_ix ix_list (pv 0) pe_int (fun _ _ => rfl)) (pa_cons (pv 1) pa_nil))) (pg_tup rfl (pgs_cons (pg_sub (pv 0) pe_int set_list) (pgs_cons (pg_name (i := 2) sc_Ldraw.nd rfl (Or.inl rfl)) pgs_nil))))
          (pss_one (ps_ret (pv 2))))
          pss_nil)
        (pss_cons (ps_asg (pe_op op_mod (pe_callTy call_int1i (by rfl) T.m_int (by decide +kernel) (pa_cons (pe_op op_add (pe_op op_mulW (pe_ix ix_list (pv 0) pe_int (fun _ _ => rfl)) pe_int) pe_int) pa_nil)) pe_int) (pg_sub (pv 0) pe_int set_list))
        (pss_one (ps_ret (pe_op op_mod (pe_callTy call_int1i (by rfl) T.m_int (by decide +kernel) (pa_cons (pe_op op_fdiv (pe_op op_mod (pe_callTy call_int1i (by rfl) T.m_int (by decide +kernel) (pa_cons (pe_op op_mulW (pe_ix ix_list (pv 0) pe_int (fun _ _ => rfl)) (pe_ix ix_list (pv 0) pe_int (fun _ _ => rfl))) pa_nil)) pe_int) pe_int) pa_nil)) (pv 1)))))), ?_⟩
    clear hr
    simp only [pt, List.cons_append, List.nil_append] at hO k
    obtain ⟨o, ⟨x, y, rfl, hx, hy, hy2⟩, o1⟩ := hO.openS (a := a) (φ := PotO) (by walk_at "mem")
    replace hO := o1 _ (by walk_at "setat")
    clear o1
    walk_at "go"
    refine iteD (fun h => ?_) (fun h => ?_)
    · walk_at "go"
      refine k (x % n) _ (Int.emod_nonneg _ (by omega)) (Int.emod_lt_of_pos _ hn) ?_
      walk_at "fin"
      exact ⟨x / n, y, rfl, Int.ediv_nonneg hx (by omega), hy, hy2⟩
    · walk_at "go"
      refine k _ _ (Int.emod_nonneg _ (by omega)) (Int.emod_lt_of_pos _ hn) ?_
      walk_at "fin"
      exact ⟨x, _, rfl, hx, by omega, by omega⟩
def sp_Lpick (K : PySem.W.Frag) : Sp := fun vs H Q _ => ∃ (a l : Addr) (xs : List V) (R : List (Addr × Ob)) (P : List Pf), vs = [.ref a, .ref l] ∧ Own K H (pt a ++ ((l, .raw (.lst xs)) :: R)) P ∧ 0 < xs.length ∧ xs.length ≤ 1000 ∧
  ∀ (i : Nat) (v : V) (H' : Hp), xs[i]? = some v → Own K H' (pt a ++ ((l, .raw (.lst xs)) :: R)) P → Q v H'
theorem ok_Lpick (T : Txt w K mg) : FnOk P w K mg base CX0 2 T.f_Lpick T.fd_Lpick ["_law_pot_here", "_law_some"] (sp_Lpick K) := by
  have G_Ldraw := ok_Ldraw (P := P) (w := w) (base := base) T
  refine T.F_Lpick.ok sc_Lpick (fun vs H Q E h => ?_) (fun cdv A outer s H vs Q E hr h => ?_)
  · obtain ⟨a, l, xs, R, P, rfl, hO, h0, h1, k⟩ := h; rfl
  · obtain ⟨a, l, xs, R, P, rfl, hO, h0, h1, k⟩ := h
    refine ⟨_, (pss_one (ps_ret (pe_ix ix_list (pv 1) (pe_call G_Ldraw (hr.mono (by decide)) rfl T.g_Ldraw T.F_Ldraw.kp T.b_Ldraw .nil pass0 (pa_cons (pv 0) (pa_cons (pe_callB call_len_list (by rfl) T.m_len (by decide +kernel) (pa_cons (pv 1) pa_nil)) pa_nil))) (fun _ _ => rfl)))), ?_⟩
    clear G_Ldraw
    clear hr
    simp only [pt, List.cons_append, List.nil_append] at hO k
    walk_at "go"
    intro d H1 d0 d1 hO
    obtain ⟨d, rfl⟩ := Int.eq_ofNat_of_zero_le d0
    have dl : d < xs.length := by omega
    have ad : atI xs (d : Int) = some xs[d] := atI_nat (List.getElem?_eq_getElem dl)
    simp only [pt, List.cons_append, List.nil_append] at hO
    walk_at "go"
    exact k d _ _ (List.getElem?_eq_getElem dl) hO
def sp_Lnames (K : PySem.W.Frag) : Sp := fun vs H Q _ => ∃ (R : List (Addr × Ob)) (P : List Pf), vs = [] ∧ Own K H R P ∧ ∀ (p : Addr) (H' : Hp), Own K H' ((p, .raw (.lst (nmL.map V.str))) :: R) P → Q (.ref p) H'
theorem ok_Lnames (T : Txt w K mg) : FnOk P w K mg base CX0 1 T.f_Lnames T.fd_Lnames [] (sp_Lnames K) := by
  refine T.F_Lnames.ok sc_Lnames (fun vs H Q E h => ?_) (fun cdv A outer s H vs Q E hr h => ?_)
  · obtain ⟨R, P, rfl, hO, k⟩ := h; rfl
  · obtain ⟨R, P, rfl, hO, k⟩ := h
    refine ⟨_, (pss_cons (ps_set (i := 0) sc_Lnames.nd rfl (Or.inl rfl) (pe_lst (pa_cons pe_str (pa_cons pe_str (pa_cons pe_str (pa_cons pe_str (pa_cons pe_str (pa_cons pe_str (pa_cons pe_str (pa_cons pe_str (pa_cons pe_str (pa_cons pe_str (pa_cons pe_str (pa_cons pe_str (pa_cons pe_str pa_nil)))))))))))))))
        (pss_one (ps_ret (pe_op op_cat (pv 0) (pe_lst (pa_cons pe_str (pa_cons pe_str (pa_cons pe_str (pa_cons pe_str (pa_cons pe_str (pa_cons pe_str (pa_cons pe_str (pa_cons pe_str (pa_cons pe_str (pa_cons pe_str (pa_cons pe_str (pa_cons pe_str (pa_cons pe_str pa_nil)))))))))))))))))), ?_⟩
    clear hr
    walk_at "go"
    refine k _ _ ?_
    walk_at "fin"
theorem eqv_str (x y : Str) : eqV (.str x) (.str y) = decide (x = y) := by
  by_cases h : x = y <;> simp [eqV, h]
theorem mt_indexN {X : Cx} : MtR X "list.index" (fun x xs H Q => ∃ (a : Addr) (j : Nat), x = V.ref a ∧ xs = [V.str (nm j)] ∧ j < 26 ∧ SqL X.K H a (nmL.map V.str) ∧ Q (.int (j : Int)) H) := by
  intro pins s σ H x xs v us Q I rx rxs h
  obtain ⟨a, j, rfl, rfl, hj, hs, q⟩ := h
  have hl : nmL.length = 26 := by decide +kernel
  have hg : ∀ i, i < 26 → (nmL.map V.str)[i]? = some (.str (nm i)) := fun i hi => by
    rw [List.getElem?_map, nm, List.getD_eq_getElem?_getD, List.getElem?_eq_getElem (by omega)]; rfl
  refine mt_index pins s σ H _ _ v us Q I rx rxs ⟨a, _, _, j, _, rfl, rfl, hs, rfl, (by rw [List.all_map]; exact List.all_eq_true.mpr fun _ _ => rfl), hg j hj, by rw [eqv_str]; exact decide_eq_true rfl, fun m z hm hz => ?_, q⟩
  rw [hg m (by omega)] at hz
  obtain rfl := Option.some.inj hz
  rw [eqv_str]
  exact decide_eq_false fun e => by have := nm_inj (by omega) hj e; omega
def z7 : List (Int × Str) := [(11, "three"), (15, "near"), (17, "byte"), (20, "far"), (21, "call"), (23, "control"), (26, "bare")]
theorem form7 {j : Nat} (h : j < 26) : ((z7.filter fun z => decide ((j : Int) < z.1)).map Prod.snd)[0]? = some (fmN (fi j)) := by
  have z : ∀ j : Nat, j < 26 → ((z7.filter fun z => decide ((j : Int) < z.1)).map Prod.snd)[0]? = some (fmN (fi j)) := by decide +kernel
  exact z j h
def zD (z : Int × Str) : PyData := .tuple [.int z.1, .str z.2]
theorem asDp {K : PySem.W.Frag} {H : Hp} {a : Addr} {vs : List V} {ds : List PyData} {L : List (Addr × Ob)} {P : List Pf} {G : Prop} (h : Own K H ((a, .raw (.lst vs)) :: L) P) (x : Dv K P vs ds) (k : ∀ ws : List V, ws.length = ds.length → Own K H ((a, .raw (.lst ws)) :: L) (.dp ws ds :: P) → G) : G := k vs (h.all x).len (h.dv x)
def sp_Lform (K : PySem.W.Frag) : Sp := fun vs H Q _ => ∃ (j : Nat) (R : List (Addr × Ob)) (P : List Pf), vs = [.str (nm j)] ∧ Own K H R P ∧ j < 26 ∧ ∀ (H' : Hp) (P' : List Pf), Ps P P' → Own K H' R P' → Q (.str (fmN (fi j))) H'
theorem ok_Lform (T : Txt w K mg) : FnOk P w K mg base CX0 2 T.f_Lform T.fd_Lform ["_law_name"] (sp_Lform K) := by
  have G_Lnames := ok_Lnames (P := P) (w := w) (base := base) T
  refine T.F_Lform.ok sc_Lform (fun vs H Q E h => ?_) (fun cdv A outer s H vs Q E hr h => ?_)
  · obtain ⟨j, R, P, rfl, hO, hj, k⟩ := h; rfl
  · obtain ⟨j, R, P, rfl, hO, hj, k⟩ := h
    refine ⟨_, (pss_cons (ps_set (i := 1) sc_Lform.nd rfl (Or.inr rfl) (pe_bm PySem.F.plainAttrs_list PySem.F.slot_list_index PySem.F.type_list_index mt_indexN (pe_call0 G_Lnames (hr.mono (by decide)) rfl T.g_Lnames T.F_Lnames.kp T.b_Lnames .nil pass0) (pa_cons (pv 0) pa_nil)))
        (pss_cons (ps_set (i := 2) sc_Lform.nd rfl (Or.inl rfl) (pe_lst (pa_cons (pe_tup (pa_cons pe_int (pa_cons pe_str pa_nil))) (pa_cons (pe_tup (pa_cons pe_int (pa_cons pe_str pa_nil))) (pa_cons (pe_tup (pa_cons pe_int (pa_cons pe_str pa_nil))) (pa_cons (pe_tup (pa_cons pe_int (pa_cons pe_str pa_nil))) (pa_cons (pe_tup (pa_cons pe_int (pa_cons pe_str pa_nil))) (pa_cons (pe_tup (pa_cons pe_int (pa_cons pe_str pa_nil))) (pa_cons (pe_tup (pa_cons pe_int (pa_cons pe_str pa_nil))) pa_nil)))))))))
        (pss_one (ps_ret (pe_ix ix_list (pe_lc (own := [("_law_most", 3), ("_law_form_here", 4)]) (g := gTup _ 2 (gCons (gName 3) (gCons (gName 4) gNil)))  rfl sc_Lform.nd (pi_list (pv 2)) (blkOk_by (N := ["_law_name", "_law_at", "_law_forms", "_law_most", "_law_form_here"]) (sc := defScope s_Lform) (by decide +kernel)) (fun _ _ _ _ _ => pg_pair (i := 3) (j := 4) rfl sc_Lform.nd rfl rfl (Or.inl rfl) (Or.inl rfl)) (fun _ _ _ _ _ => pts_one (pt_cmpR op_lt (pv 1) (pv 3) (nomark _))) (fun _ _ _ _ _ => (pv 4))) pe_int (fun _ _ => rfl)))))), ?_⟩
    clear G_Lnames
    clear hr
    walk_at "go"
    intro p H1 hO
    walk_at "go"
    refine asDp hO (ds := z7.map zD) (by simp only [z7, zD, List.map_cons, List.map_nil]; walk_at "dv") (fun ws hws hO => ?_)
    intro D hD
    refine lc_siftD z7 (fun z => .str z.2) (fun z => decide ((j : Int) < z.1)) (by rw [show z7.length = ws.length from by rw [hws, List.length_map]]; exact walk_list (xs := ws)) hO hD (by decide) (fun H L' P' m s h => SqL.of (h.raw (m _ (by walk_at "mem")))) (fun i z xv H9 H' P' ds2 Qn Qy hz2 hY sp hO kn ky => ?_) (fun H2 P2 sp2 hO => ?_)
    · obtain ⟨rfl, hv⟩ := hY
      have hz7 : (z7.map zD)[i]? = some (zD z) := by rw [List.getElem?_map, hz2]; rfl
      obtain ⟨t, rfl, hO⟩ := hO.opn (Dv.get (Dv.of (sp _ List.mem_cons_self)) hv hz7)
      walk_at "go"
      refine iteD (fun h => ?_) (fun h => ?_)
      · walk_at "go"
        exact ky (decide_eq_true h) _ _ _ (Ps.skip Ps.refl) hO (Dv1.str _)
      · exact kn (decide_eq_false h) _ _ (Ps.skip Ps.refl) hO
    obtain ⟨vd, o1⟩ := hO.openL (a := D) (by walk_at "mem")
    replace hO := o1 _ (by walk_at "setat")
    clear o1
    have hvd := dp_flats (hO.pdp List.mem_cons_self) (by rw [List.all_map]; exact List.all_eq_true.mpr fun _ _ => rfl)
    have ad : atI vd (0 : Int) = some (.str (fmN (fi j))) := atI_nat (j := 0) (by
      have e := form7 hj
      rw [List.getElem?_map] at e
      obtain ⟨z, hz, e⟩ := Option.map_eq_some_iff.mp e
      rw [hvd, List.map_map, List.getElem?_map, hz, ← e]; rfl)
    walk_at "go"
    refine k _ P2 (Ps.trans (by walk_at "ps") sp2) ?_
    walk_at "fin"
def rgN (i : Nat) : Int := ([3, 2, 1, 1, 0, 1, 0] : List Int).getD i 0
def lsV (i : Nat) : V := ([.non, .int (-16), .int 0, .int (-128), .int 0, .int 0, .non] : List V).getD i .non
def mtV (i : Nat) : V := ([.non, .int 15, .int 255, .int 127, .int 255, .int 7, .non] : List V).getD i .non
def sp_Lshape (K : PySem.W.Frag) : Sp := fun vs H Q _ => ∃ (i : Nat) (R : List (Addr × Ob)) (P : List Pf), vs = [.str (fmN i)] ∧ Own K H R P ∧ i < 7 ∧ ∀ (p : Addr) (H' : Hp), Own K H' R (.tup p [.int (rgN i), lsV i, mtV i] :: P) → Q (.ref p) H'
theorem ok_Lshape (T : Txt w K mg) : FnOk P w K mg base CX0 1 T.f_Lshape T.fd_Lshape ["_law_form_here"] (sp_Lshape K) := by
  refine T.F_Lshape.ok sc_Lshape (fun vs H Q E h => ?_) (fun cdv A outer s H vs Q E hr h => ?_)
  · obtain ⟨i, R, P, rfl, hO, hi, k⟩ := h; rfl
  · obtain ⟨i, R, P, rfl, hO, hi, k⟩ := h
    refine ⟨_, (pss_cons (ps_if (pt_cmpR op_eq (pv 0) pe_str (nomark _))
          (pss_one (ps_ret (pe_tup (pa_cons pe_int (pa_cons pe_non (pa_cons pe_non pa_nil))))))
          pss_nil)
        (pss_cons (ps_if (pt_cmpR op_eq (pv 0) pe_str (nomark _))
          (pss_one (ps_ret (pe_tup (pa_cons pe_int (pa_cons (pe_un un_neg pe_int) (pa_cons pe_int pa_nil))))))
          pss_nil)
        (pss_cons (ps_if (pt_cmpR op_eq (pv 0) pe_str (nomark _))
          (pss_one (ps_ret (pe_tup (pa_cons pe_int (pa_cons pe_non (pa_cons pe_non pa_nil))))))
          pss_nil)
        (pss_cons (ps_if (pt_cmpR op_eq (pv 0) pe_str (nomark _))
          (pss_one (ps_ret (pe_tup (pa_cons pe_int (pa_cons (pe_un un_neg pe_int) (pa_cons pe_int pa_nil))))))
          pss_nil)
        (pss_one (ps_ret (pe_tup (pa_cons (pe_ifExp (pt_cmpR op_eq (pv 0) pe_str (nomark _)) pe_int pe_int) (pa_cons pe_int (pa_cons (pe_ifExp (pt_cmpR op_eq (pv 0) pe_str (nomark _)) pe_int pe_int) pa_nil)))))))))), ?_⟩
    clear hr
    match i, hi with
    | 0, _ => walk_at "go"; exact k _ _ hO
    | 1, _ => walk_at "go"; exact k _ _ hO
    | 2, _ => walk_at "go"; exact k _ _ hO
    | 3, _ => walk_at "go"; exact k _ _ hO
    | 4, _ => walk_at "go"; exact k _ _ hO
    | 5, _ => walk_at "go"; exact k _ _ hO
    | 6, _ => walk_at "go"; exact k _ _ hO
end
end K15

set_option Elab.async false
set_option linter.all false
set_option maxRecDepth 100000
set_option maxHeartbeats 8000000

namespace K15
open PySem PySem.Spec PyProof.Rows L2 Hx 
local macro_rules | `(tactic| walk_at "sm") => `(tactic| repeat' (first | assumption | apply Hx.Same.upd | exact L2.Same.refl _ | apply same_trans'))
local macro_rules | `(tactic| walk_at "hp") => `(tactic| repeat' (first | assumption | exact upd_same | apply old_upd | apply same_at))
local macro_rules | `(tactic| walk_at "rd") => `(tactic| repeat' (first | rfl | apply Exists.intro | apply And.intro | refine iteT ?_ | refine iteF ?_ | exact upd_same | exact SqL.of (by assumption) | exact SqL.of upd_same | exact SqT.of upd_same | exact SqT.of (by assumption) | ((with_reducible show (_ : Int) < _); omega) | ((with_reducible show (_ : Int) ≤ _); omega) | (show (_ : Prop); assumption) | exact Or.inl ⟨_, by assumption, rfl⟩ | exact Or.inl ⟨rfl, _, SqL.of (by assumption)⟩ | exact Or.inl ⟨rfl, _, SqL.of upd_same⟩ | apply old_upd | apply Hx.SqL.new | apply tyl_new | apply Pot.new | exact same_at (by assumption) (by assumption) | exact Or.inl (SqL.of (by assumption)) | exact Or.inl (by assumption) | exact Or.inl (SqL.of upd_same) | exact size_le (Nat.le_of_ble_eq_true rfl) | exact Nat.le_of_ble_eq_true rfl | exact True.intro | exact Or.inl rfl | exact Or.inr rfl | (show (_ : Prop); omega) | (show (_ : Prop); dsimp only; omega) | exact mulw64 (by omega) (by omega) | exact mulw64 (by (try dsimp only); omega) (by (try dsimp only); omega)))
local macro_rules | `(tactic| walk_at "mem") => `(tactic| ((repeat (first | exact List.Mem.head _ | apply List.Mem.tail | fail)); done))
local macro_rules | `(tactic| walk_at "setat") => `(tactic| ((repeat (first | (with_reducible exact At.head) | (with_reducible apply At.tail) | (with_reducible apply At.app) | fail)); done))
set_option hygiene false in
local macro_rules | `(tactic| walk_at "dv") => `(tactic| ((repeat' (first | exact Dv.nil | exact Dv.of (by walk_at "mem") | exact Dv.ints _ | exact Dv1.of (by walk_at "mem") | exact Dv1.int _ | exact Dv1.non | exact Dv1.bl _ | exact Dv1.str _ | (with_reducible apply Dv.cons) | refine Dv1.tup (by walk_at "mem") ?_ | refine Dv1.lst (by walk_at "mem") ?_ | (with_reducible apply Dv.app) | fail)); done))
local macro_rules | `(tactic| walk_at "ft") => `(tactic| (first | (with_reducible exact Ft.refl) | ((with_reducible apply Ft.toL); focus walk_at "dv") | ((with_reducible apply Ft.toS); focus assumption) | (with_reducible apply Ft.lst) | (with_reducible apply Ft.Le) | (with_reducible apply Ft.dK) | (with_reducible apply Ft.De) | (with_reducible apply Ft.ins) | (with_reducible apply Ft.toL) | (with_reducible apply Ft.toS) | (with_reducible apply Ft.toD) | fail))
local macro_rules | `(tactic| walk_at "sbL") => `(tactic| repeat' (first | (with_reducible exact Sb.refl _) | exact Sb.nil | (with_reducible apply Sb.cons) | (with_reducible apply Sb.app) | (with_reducible exact Pk.one) | (with_reducible exact Pk.here) | (with_reducible exact Pk.all) | (with_reducible apply Pk.skip1) | (with_reducible apply Pk.skipB) | (with_reducible apply Sb.skip) | (with_reducible apply Sb.skipB) | ((with_reducible show Ft _ _ _ _); walk_at "ft") | ((with_reducible show (_ : List _) = _); (first | rfl | (simp [List.map_set, List.map_append]; done) | fail)) | fail))
local macro_rules | `(tactic| walk_at "sb") => `(tactic| ((walk_at "sbL"); done))
local macro_rules | `(tactic| walk_at "ps") => `(tactic| ((repeat' (first | (with_reducible exact Ps.refl) | exact Ps.nil | (with_reducible apply Ps.cons) | exact List.Mem.head _ | apply List.Mem.tail | (with_reducible apply Ps.skip) | fail)); done))
set_option hygiene false in
local macro_rules | `(tactic| walk_at "at") => `(tactic| first | assumption | exact Own.raw hO (by walk_at "mem") | exact Own.ptup hO (by walk_at "mem") | exact Own.plst hO (by walk_at "mem") | fail)
set_option hygiene false in
local macro_rules | `(tactic| walk_at "st") => `(tactic| (rw [upd_mkO hO]; generalize e : updX _ _ _ = H1; (first | ((apply Own.cset hO e); (focus walk_at "setat"); (try clear hO e); intro hO) | ((apply Own.cnewT hO e); (focus assumption); (try clear hO e); intro hO) | ((apply Own.cnew hO e); (focus assumption); (try clear hO e); intro hO) | fail)))
set_option hygiene false in
local macro_rules | `(tactic| walk_at "mk") => `(tactic| (intro p1 p2 f1 f2 f3; rw [upd_mkO hO]; generalize e : upd (updX _ _ _) _ _ = H1; apply Own.cmake hO f1 f2 f3 e; (try clear hO e); intro hO))
set_option hygiene false in
local macro_rules | `(tactic| walk_at "own") => `(tactic| (first | ((apply Own.sub hO); (focus walk_at "sb"); (focus walk_at "ps")) | ((apply Own.sub hF); (focus walk_at "sb"); (focus walk_at "ps")) | fail))
set_option hygiene false in
local macro_rules | `(tactic| walk_at "fin") => `(tactic| (refine Own.sub hO ?_ (by walk_at "ps"); walk_at "sbL"))
set_option hygiene false in
local macro_rules | `(tactic| walk_at "g1") => `(tactic| (first
 | ((with_reducible show (_ : Option HO) = _); walk_at "at")
 | ((with_reducible show (_ : Int) < _); omega) | ((with_reducible show (_ : Int) ≤ _); omega)
 | ((with_reducible show (_ : Nat) < _); (first | assumption | exact Nat.le_of_ble_eq_true rfl | exact size_lt (Nat.le_of_ble_eq_true rfl) | omega | (simp; done) | (simp; omega) | fail))
 | ((with_reducible show (_ : Nat) ≤ _); (first | assumption | exact Nat.le_of_ble_eq_true rfl | exact size_le (Nat.le_of_ble_eq_true rfl) | omega | (simp; done) | (simp; omega) | fail))
 | ((with_reducible show (_ : Pf) ∈ _); (first | assumption | (focus walk_at "mem") | ((repeat (with_reducible apply List.mem_cons_of_mem)); assumption) | fail))
 | ((with_reducible show Own _ _ _ _); (first | walk_at "own" | (walk_at "st"; walk_at "own") | fail))
 | ((with_reducible show SqL _ _ _ _); (first | assumption | exact SqL.of (by walk_at "at") | fail))
 | ((with_reducible show SqT _ _ _ _); (first | assumption | exact hO.psq (by walk_at "mem") | exact hO.psq (by assumption) | exact SqT.of (by walk_at "at") | fail))
   | ((with_reducible show V.ref _ = V.ref _); (first | rfl | fail))
 | ((with_reducible show DGet _ _ _ _); (first | exact DGet.ki (by walk_at "at") (by assumption) | exact DGet.kiF (by walk_at "at") (by assumption) | fail))
 | ((with_reducible show DPut _ _ _ _ _); exact DPut.ki (by walk_at "at") (by assumption))
 | ((with_reducible show Rd _ _ _); (first | exact Or.inl (by walk_at "at") | exact Or.inr ⟨_, by walk_at "at"⟩ | fail))
 | ((with_reducible show (∃ _ : List (Key × V), _) ∨ _); refine Or.inl ⟨_, by walk_at "at", ?_⟩)
 | ((with_reducible show Dv _ _ _ _); focus walk_at "dv") | ((with_reducible show Dv1 _ _ _ _); focus walk_at "dv")
 | ((with_reducible show IsD _ _); exact Or.inl ⟨_, Or.inl (by walk_at "at")⟩)
 | ((with_reducible show V.int _ = kV _); exact kV_int)
 | ((with_reducible show Option.isSome _ = true); (first | exact isSome_ofV (by assumption) | assumption | fail))
 | ((with_reducible show SqL _ _ _ _ ∨ SqT _ _ _ _); (first | exact Or.inl (by assumption) | exact Or.inr (by assumption) | exact Or.inl (SqL.of (by walk_at "at")) | exact Or.inr (SqT.of (by walk_at "at")) | fail))
 | ((with_reducible show Dp _ _ _ _); (first | assumption | exact hO.dpL (by walk_at "mem") | exact .lst (SqL.of (by walk_at "at")) (hO.all (by walk_at "dv")) | exact hO.one (by walk_at "dv") | fail))
 | ((with_reducible show TruV _ _ _ _); (first | exact Or.inl ⟨_, SqL.of (by walk_at "at"), rfl⟩ | exact Or.inr (Or.inr ⟨_, by walk_at "at", rfl⟩) | exact Or.inr (Or.inl ⟨_, SqT.of (by walk_at "at"), rfl⟩) | fail))
 | ((with_reducible show RgOk _ _); exact RgOk.of_le (by omega) (by omega) (by omega) (by omega))
 | rfl | (with_reducible assumption) | apply And.intro | apply Exists.intro | refine iteT ?_ | refine iteF ?_
 | (walk_at "st"; (try walk_at "fl"))
 | ((with_reducible show ∀ _ : Addr, _ = none → _); (fail_if_success (with_reducible show ∀ _ : Addr, _ = none → ∃ _ : Nat → Nat → Hp → Prop, _)); intro p fp; walk_at "st")
 | (refine Or.inl ⟨SqL.of (by walk_at "at"), ?_⟩) | (refine Or.inr ⟨SqT.of (by walk_at "at"), ?_⟩) | exact Or.inl ⟨_, by walk_at "at", rfl⟩ | exact Or.inl ⟨rfl, _, SqL.of (by walk_at "at")⟩ | exact tyl_of (by walk_at "at") | exact Or.inl (SqL.of (by walk_at "at")) | exact Or.inr (SqT.of (by walk_at "at")) | exact Or.inl (by walk_at "at") | exact size_le (Nat.le_of_ble_eq_true rfl) | exact Nat.le_of_ble_eq_true rfl | exact True.intro | exact Or.inl rfl | exact Or.inr rfl | (show (_ : Prop); assumption) | (show (_ : Prop); omega) | (show (_ : Prop); dsimp only; omega) | exact mulw64 (by omega) (by omega) | exact mulw64 (by (try dsimp only); omega) (by (try dsimp only); omega) | fail))
local macro_rules | `(tactic| walk_at "go") => `(tactic| repeat walk_at "g1")

section
variable {P : Program} {w : World} {K : PySem.W.Frag} {mg : Str → Option Value} {base : Heap}
theorem st_a {n : Int} (h : 0 ≤ n ∧ n ≤ 7) : stN "a" n = n * 256 := by
  unfold stN; rw [show Hx.pa "a" = (8, 3, 0, 7) from by decide +kernel]; show n % (1 * 2 ^ 3) * 2 ^ 8 = n * 256; omega
theorem st_b {n : Int} (h : 0 ≤ n ∧ n ≤ 7) : stN "b" n = n * 32 := by
  unfold stN; rw [show Hx.pa "b" = (5, 3, 0, 7) from by decide +kernel]; show n % (1 * 2 ^ 3) * 2 ^ 5 = n * 32; omega
theorem st_c (n : Int) : stN "c" n = n % 32 := by
  unfold stN; rw [show Hx.pa "c" = (0, 5, 0, 7) from by decide +kernel]; show n % (1 * 2 ^ 5) * 2 ^ 0 = n % 32; omega
theorem st_near (n : Int) : stN "near" n = n % 32 := by
  unfold stN; rw [show Hx.pa "near" = (0, 5, -16, 15) from by decide +kernel]; show n % (1 * 2 ^ 5) * 2 ^ 0 = n % 32; omega
theorem st_byte (n : Int) : stN "byte" n = n % 256 := by
  unfold stN; rw [show Hx.pa "byte" = (0, 8, 0, 255) from by decide +kernel]; show n % (1 * 2 ^ 8) * 2 ^ 0 = n % 256; omega
theorem st_far (n : Int) : stN "far" n = n % 256 := by
  unfold stN; rw [show Hx.pa "far" = (0, 8, -128, 127) from by decide +kernel]; show n % (1 * 2 ^ 8) * 2 ^ 0 = n % 256; omega
theorem st_ctl (n : Int) : stN "control" n = n % 256 := by
  unfold stN; rw [show Hx.pa "control" = (0, 8, 0, 7) from by decide +kernel]; show n % (1 * 2 ^ 8) * 2 ^ 0 = n % 256; omega
theorem e11' : (2 : Int) ^ (11 : Int).toNat = 2048 := by decide
theorem wd_3 {j : Nat} {x y z : Int} (hf : fi j = 0) (hx : 0 ≤ x ∧ x ≤ 7) (hy : 0 ≤ y ∧ y ≤ 7) : wdN j [x, y, z] = ((j : Int) + 1) * 2048 + x * 256 + y * 32 + z % 32 := by
  unfold wdN; rw [hf, e11']; show _ + (stN "a" x + (stN "b" y + (stN "c" z + 0))) = _; rw [st_a hx, st_b hy, st_c]; omega
theorem wd_n {j : Nat} {x y z : Int} (hf : fi j = 1) (hx : 0 ≤ x ∧ x ≤ 7) (hy : 0 ≤ y ∧ y ≤ 7) : wdN j [x, y, z] = ((j : Int) + 1) * 2048 + x * 256 + y * 32 + z % 32 := by
  unfold wdN; rw [hf, e11']; show _ + (stN "a" x + (stN "b" y + (stN "near" z + 0))) = _; rw [st_a hx, st_b hy, st_near]; omega
theorem wd_b {j : Nat} {x y : Int} (hf : fi j = 2) (hx : 0 ≤ x ∧ x ≤ 7) : wdN j [x, y] = ((j : Int) + 1) * 2048 + x * 256 + y % 256 := by
  unfold wdN; rw [hf, e11']; show _ + (stN "a" x + (stN "byte" y + 0)) = _; rw [st_a hx, st_byte]; omega
theorem wd_f {j : Nat} {x y : Int} (hf : fi j = 3) (hx : 0 ≤ x ∧ x ≤ 7) : wdN j [x, y] = ((j : Int) + 1) * 2048 + x * 256 + y % 256 := by
  unfold wdN; rw [hf, e11']; show _ + (stN "a" x + (stN "far" y + 0)) = _; rw [st_a hx, st_far]; omega
theorem wd_c {j : Nat} {x : Int} (hf : fi j = 4) : wdN j [x] = ((j : Int) + 1) * 2048 + x % 256 := by
  unfold wdN; rw [hf, e11']; show _ + (stN "byte" x + 0) = _; rw [st_byte]; omega
theorem wd_k {j : Nat} {x y : Int} (hf : fi j = 5) (hx : 0 ≤ x ∧ x ≤ 7) : wdN j [x, y] = ((j : Int) + 1) * 2048 + x * 256 + y % 256 := by
  unfold wdN; rw [hf, e11']; show _ + (stN "a" x + (stN "control" y + 0)) = _; rw [st_a hx, st_ctl]; omega
theorem wd_0 {j : Nat} (hf : fi j = 6) : wdN j [] = ((j : Int) + 1) * 2048 := by
  unfold wdN; rw [hf, e11']; show _ + 0 = _; omega
theorem l3 {ns : List Int} (h : ns.length = 3) : ∃ x y z, ns = [x, y, z] := by
  match ns, h with | [x, y, z], _ => exact ⟨x, y, z, rfl⟩
theorem l2 {ns : List Int} (h : ns.length = 2) : ∃ x y, ns = [x, y] := by
  match ns, h with | [x, y], _ => exact ⟨x, y, rfl⟩
theorem l1 {ns : List Int} (h : ns.length = 1) : ∃ x, ns = [x] := by
  match ns, h with | [x], _ => exact ⟨x, rfl⟩
theorem fit_a {j : Nat} {x : Int} {ns : List Int} (h : OkI j (x :: ns)) {ps : List Str} (hp : ptN (fi j) = ("a" : Str) :: ps) : 0 ≤ x ∧ x ≤ 7 := by
  have f := h.fit 0 "a" x (by rw [hp]; rfl) rfl
  rw [show Hx.pa "a" = (8, 3, 0, 7) from by decide +kernel] at f
  exact f
theorem fit_b {j : Nat} {x y : Int} {ns : List Int} (h : OkI j (x :: y :: ns)) {ps : List Str} {q : Str} (hp : ptN (fi j) = q :: ("b" : Str) :: ps) : 0 ≤ y ∧ y ≤ 7 := by
  have f := h.fit 1 "b" y (by rw [hp]; rfl) rfl
  rw [show Hx.pa "b" = (5, 3, 0, 7) from by decide +kernel] at f
  exact f
def sp_Lword (K : PySem.W.Frag) : Sp := fun vs H Q _ => ∃ (a : Addr) (j : Nat) (ns : List Int) (R : List (Addr × Ob)) (P : List Pf), vs = [.ref a] ∧ Own K H R P ∧ Pf.sq a (insV j ns) ∈ P ∧ OkI j ns ∧ ∀ H' P', Ps P P' → Own K H' R P' → Q (.int (wdN j ns)) H'
theorem ok_Lword (T : Txt w K mg) : FnOk P w K mg base CX0 3 T.f_Lword T.fd_Lword ["_law_told_here"] (sp_Lword K) := by
  have G_Lform := ok_Lform (P := P) (w := w) (base := base) T
  have G_Lnames := ok_Lnames (P := P) (w := w) (base := base) T
  refine T.F_Lword.ok sc_Lword (fun vs H Q E h => ?_) (fun cdv A outer s H vs Q E hr h => ?_)
  · obtain ⟨a, j, ns, R, P, rfl, hO, mi, hI, k⟩ := h; rfl
  · obtain ⟨a, j, ns, R, P, rfl, hO, mi, hI, k⟩ := h
    refine ⟨_, (pss_cons (ps_set (i := 1) sc_Lword.nd rfl (Or.inl rfl) (pe_call G_Lform (hr.mono (by decide)) rfl T.g_Lform T.F_Lform.kp T.b_Lform .nil pass0 (pa_cons (pe_ix ix_tup (pv 0) pe_int (fun _ _ => rfl)) pa_nil)))
        (pss_cons (ps_set (i := 2) sc_Lword.nd rfl (Or.inl rfl) (pe_op op_mulW (pe_op op_add (pe_bm PySem.F.plainAttrs_list PySem.F.slot_list_index PySem.F.type_list_index mt_indexN (pe_call0 G_Lnames (hr.mono (by decide)) rfl T.g_Lnames T.F_Lnames.kp T.b_Lnames .nil pass0) (pa_cons (pe_ix ix_tup (pv 0) pe_int (fun _ _ => rfl)) pa_nil)) pe_int) pe_int))
        (pss_cons (ps_if (pt_cmpR op_eq (pv 1) pe_str (nomark _))
          (pss_one (ps_ret (pv 2)))
          pss_nil)
        (pss_cons (ps_if (pt_cmpR op_eq (pv 1) pe_str (nomark _))
          (pss_one (ps_ret (pe_op op_add (pv 2) (pe_ix ix_tup (pv 0) pe_int (fun _ _ => rfl)))))
          pss_nil)
        (pss_cons (ps_if (pt_cmpR op_inL (pv 1) (pe_lst (pa_cons pe_str (pa_cons pe_str pa_nil))) (by rfl))
          (pss_one (ps_ret (pe_op op_add (pe_op op_add (pe_op op_add (pv 2) (pe_op op_mulW (pe_ix ix_tup (pv 0) pe_int (fun _ _ => rfl)) pe_int)) (pe_op op_mulW (pe_ix ix_tup (pv 0) pe_int (fun _ _ => rfl)) pe_int)) (pe_op op_mod (pe_ix ix_tup (pv 0) pe_int (fun _ _ => rfl)) pe_int))))
          pss_nil)
        (pss_one (ps_ret (pe_op op_add (pe_op op_add (pv 2) (pe_op op_mulW (pe_ix ix_tup (pv 0) pe_int (fun _ _ => rfl)) pe_int)) (pe_op op_mod (pe_ix ix_tup (pv 0) pe_int (fun _ _ => rfl)) pe_int))))))))), ?_⟩
    clear G_Lform G_Lnames
    clear hr
    have hj := hI.hj
    have hln := hI.len
    have hi7 := fi_lt hj
    have at0 : atI (insV j ns) (0 : Int) = some (.str (nm j)) := atI_nat (j := 0) rfl
    have hS := hO.psq mi
    walk_at "go"
    intro H1 P1 sp1 hO
    replace mi := sp1 _ mi
    walk_at "go"
    intro p H2 hO
    walk_at "go"
    have hc : fi j = 0 ∨ fi j = 1 ∨ fi j = 2 ∨ fi j = 3 ∨ fi j = 4 ∨ fi j = 5 ∨ fi j = 6 := by omega
    rcases hc with hf | hf | hf | hf | hf | hf | hf
    all_goals rw [hf] at hln ⊢
    · obtain ⟨x, y, z, rfl⟩ := l3 hln
      have hx := fit_a hI (by rw [hf]; rfl)
      have hy := fit_b hI (by rw [hf]; rfl)
      rw [wd_3 hf hx hy] at k
      have a1 : atI (insV j [x, y, z]) (1 : Int) = some (.int x) := atI_nat (j := 1) rfl
      have a2 : atI (insV j [x, y, z]) (2 : Int) = some (.int y) := atI_nat (j := 2) rfl
      have a3 : atI (insV j [x, y, z]) (3 : Int) = some (.int z) := atI_nat (j := 3) rfl
      walk_at "go"
      refine k _ P1 sp1 ?_
      walk_at "fin"
    · obtain ⟨x, y, z, rfl⟩ := l3 hln
      have hx := fit_a hI (by rw [hf]; rfl)
      have hy := fit_b hI (by rw [hf]; rfl)
      rw [wd_n hf hx hy] at k
      have a1 : atI (insV j [x, y, z]) (1 : Int) = some (.int x) := atI_nat (j := 1) rfl
      have a2 : atI (insV j [x, y, z]) (2 : Int) = some (.int y) := atI_nat (j := 2) rfl
      have a3 : atI (insV j [x, y, z]) (3 : Int) = some (.int z) := atI_nat (j := 3) rfl
      walk_at "go"
      refine k _ P1 sp1 ?_
      walk_at "fin"
    · obtain ⟨x, y, rfl⟩ := l2 hln
      have hx := fit_a hI (by rw [hf]; rfl)
      rw [wd_b hf hx] at k
      have a1 : atI (insV j [x, y]) (1 : Int) = some (.int x) := atI_nat (j := 1) rfl
      have a2 : atI (insV j [x, y]) (2 : Int) = some (.int y) := atI_nat (j := 2) rfl
      walk_at "go"
      refine k _ P1 sp1 ?_
      walk_at "fin"
    · obtain ⟨x, y, rfl⟩ := l2 hln
      have hx := fit_a hI (by rw [hf]; rfl)
      rw [wd_f hf hx] at k
      have a1 : atI (insV j [x, y]) (1 : Int) = some (.int x) := atI_nat (j := 1) rfl
      have a2 : atI (insV j [x, y]) (2 : Int) = some (.int y) := atI_nat (j := 2) rfl
      walk_at "go"
      refine k _ P1 sp1 ?_
      walk_at "fin"
    · obtain ⟨x, rfl⟩ := l1 hln
      have hx : 0 ≤ x ∧ x ≤ 255 := by
        have f := hI.fit 0 "byte" x (by rw [hf]; rfl) rfl
        rw [show Hx.pa "byte" = (0, 8, 0, 255) from by decide +kernel] at f
        exact f
      rw [wd_c hf, show x % 256 = x from by omega] at k
      have a1 : atI (insV j [x]) (1 : Int) = some (.int x) := atI_nat (j := 1) rfl
      walk_at "go"
      refine k _ P1 sp1 ?_
      walk_at "fin"
    · obtain ⟨x, y, rfl⟩ := l2 hln
      have hx := fit_a hI (by rw [hf]; rfl)
      rw [wd_k hf hx] at k
      have a1 : atI (insV j [x, y]) (1 : Int) = some (.int x) := atI_nat (j := 1) rfl
      have a2 : atI (insV j [x, y]) (2 : Int) = some (.int y) := atI_nat (j := 2) rfl
      walk_at "go"
      refine k _ P1 sp1 ?_
      walk_at "fin"
    · obtain rfl := List.eq_nil_of_length_eq_zero hln
      rw [wd_0 hf] at k
      walk_at "go"
      refine k _ P1 sp1 ?_
      walk_at "fin"
theorem fb_a {x : Int} : fitB "a" x = decide (0 ≤ x ∧ x ≤ 7) := by unfold fitB; rw [show Hx.pa "a" = (8, 3, 0, 7) from by decide +kernel]
theorem nu_a {w : Int} (hw : 0 ≤ w ∧ w < 65536) : nuN w "a" = w / 256 % 8 := by
  unfold nuN; rw [show Hx.pa "a" = (8, 3, 0, 7) from by decide +kernel]
  show (if (0 : Int) < 0 ∧ w / 2 ^ 8 % (1 * 2 ^ 3) > 7 then w / 2 ^ 8 % (1 * 2 ^ 3) - 1 * 2 ^ 3 else w / 2 ^ 8 % (1 * 2 ^ 3)) = _
  rw [if_neg (by omega)]; omega
theorem fb_b {x : Int} : fitB "b" x = decide (0 ≤ x ∧ x ≤ 7) := by unfold fitB; rw [show Hx.pa "b" = (5, 3, 0, 7) from by decide +kernel]
theorem nu_b {w : Int} (hw : 0 ≤ w ∧ w < 65536) : nuN w "b" = w % 256 / 32 := by
  unfold nuN; rw [show Hx.pa "b" = (5, 3, 0, 7) from by decide +kernel]
  show (if (0 : Int) < 0 ∧ w / 2 ^ 5 % (1 * 2 ^ 3) > 7 then w / 2 ^ 5 % (1 * 2 ^ 3) - 1 * 2 ^ 3 else w / 2 ^ 5 % (1 * 2 ^ 3)) = _
  rw [if_neg (by omega)]; omega
theorem fb_c {x : Int} : fitB "c" x = decide (0 ≤ x ∧ x ≤ 7) := by unfold fitB; rw [show Hx.pa "c" = (0, 5, 0, 7) from by decide +kernel]
theorem nu_c {w : Int} (hw : 0 ≤ w ∧ w < 65536) : nuN w "c" = w % 32 := by
  unfold nuN; rw [show Hx.pa "c" = (0, 5, 0, 7) from by decide +kernel]
  show (if (0 : Int) < 0 ∧ w / 2 ^ 0 % (1 * 2 ^ 5) > 7 then w / 2 ^ 0 % (1 * 2 ^ 5) - 1 * 2 ^ 5 else w / 2 ^ 0 % (1 * 2 ^ 5)) = _
  rw [if_neg (by omega)]; omega
theorem fb_near {x : Int} : fitB "near" x = decide (-16 ≤ x ∧ x ≤ 15) := by unfold fitB; rw [show Hx.pa "near" = (0, 5, -16, 15) from by decide +kernel]
theorem nu_near {w : Int} (hw : 0 ≤ w ∧ w < 65536) : nuN w "near" = (if w % 32 > 15 then w % 32 - 32 else w % 32) := by
  unfold nuN; rw [show Hx.pa "near" = (0, 5, -16, 15) from by decide +kernel]
  show (if (-16 : Int) < 0 ∧ w / 2 ^ 0 % (1 * 2 ^ 5) > 15 then w / 2 ^ 0 % (1 * 2 ^ 5) - 1 * 2 ^ 5 else w / 2 ^ 0 % (1 * 2 ^ 5)) = _
  split <;> split <;> omega
theorem fb_byte {x : Int} : fitB "byte" x = decide (0 ≤ x ∧ x ≤ 255) := by unfold fitB; rw [show Hx.pa "byte" = (0, 8, 0, 255) from by decide +kernel]
theorem nu_byte {w : Int} (hw : 0 ≤ w ∧ w < 65536) : nuN w "byte" = w % 256 := by
  unfold nuN; rw [show Hx.pa "byte" = (0, 8, 0, 255) from by decide +kernel]
  show (if (0 : Int) < 0 ∧ w / 2 ^ 0 % (1 * 2 ^ 8) > 255 then w / 2 ^ 0 % (1 * 2 ^ 8) - 1 * 2 ^ 8 else w / 2 ^ 0 % (1 * 2 ^ 8)) = _
  rw [if_neg (by omega)]; omega
theorem fb_far {x : Int} : fitB "far" x = decide (-128 ≤ x ∧ x ≤ 127) := by unfold fitB; rw [show Hx.pa "far" = (0, 8, -128, 127) from by decide +kernel]
theorem nu_far {w : Int} (hw : 0 ≤ w ∧ w < 65536) : nuN w "far" = (if w % 256 > 127 then w % 256 - 256 else w % 256) := by
  unfold nuN; rw [show Hx.pa "far" = (0, 8, -128, 127) from by decide +kernel]
  show (if (-128 : Int) < 0 ∧ w / 2 ^ 0 % (1 * 2 ^ 8) > 127 then w / 2 ^ 0 % (1 * 2 ^ 8) - 1 * 2 ^ 8 else w / 2 ^ 0 % (1 * 2 ^ 8)) = _
  split <;> split <;> omega
theorem fb_control {x : Int} : fitB "control" x = decide (0 ≤ x ∧ x ≤ 7) := by unfold fitB; rw [show Hx.pa "control" = (0, 8, 0, 7) from by decide +kernel]
theorem nu_control {w : Int} (hw : 0 ≤ w ∧ w < 65536) : nuN w "control" = w % 256 := by
  unfold nuN; rw [show Hx.pa "control" = (0, 8, 0, 7) from by decide +kernel]
  show (if (0 : Int) < 0 ∧ w / 2 ^ 0 % (1 * 2 ^ 8) > 7 then w / 2 ^ 0 % (1 * 2 ^ 8) - 1 * 2 ^ 8 else w / 2 ^ 0 % (1 * 2 ^ 8)) = _
  rw [if_neg (by omega)]; omega
theorem dec_at {w : Int} {j : Nat} (hj : j < 26) (ej : w / 2048 - 1 = (j : Int)) : decI w = if fitsA j (nsW w j) = true ∧ wdN j (nsW w j) = w then some (j, nsW w j) else none := by
  unfold decI; rw [if_pos ⟨by omega, by omega⟩, show (w / 2048 - 1).toNat = j from by omega]
section
variable {w : Int} {j : Nat} {x y z : Int} (hw : 0 ≤ w ∧ w < 65536) (hj : j < 26) (ej : w / 2048 - 1 = (j : Int))
theorem fa_3 (hf : fi j = 0) : fitsA j [x, y, z] = true ↔ (0 ≤ x ∧ x ≤ 7) ∧ (0 ≤ y ∧ y ≤ 7) ∧ (0 ≤ z ∧ z ≤ 7) := by
  unfold fitsA; rw [hf]; show (fitB "a" x && (fitB "b" y && (fitB "c" z && true))) = true ↔ _; rw [fb_a, fb_b, fb_c]; simp
theorem fa_n (hf : fi j = 1) : fitsA j [x, y, z] = true ↔ (0 ≤ x ∧ x ≤ 7) ∧ (0 ≤ y ∧ y ≤ 7) ∧ (-16 ≤ z ∧ z ≤ 15) := by
  unfold fitsA; rw [hf]; show (fitB "a" x && (fitB "b" y && (fitB "near" z && true))) = true ↔ _; rw [fb_a, fb_b, fb_near]; simp
theorem fa_b (hf : fi j = 2) : fitsA j [x, y] = true ↔ (0 ≤ x ∧ x ≤ 7) ∧ (0 ≤ y ∧ y ≤ 255) := by
  unfold fitsA; rw [hf]; show (fitB "a" x && (fitB "byte" y && true)) = true ↔ _; rw [fb_a, fb_byte]; simp
theorem fa_f (hf : fi j = 3) : fitsA j [x, y] = true ↔ (0 ≤ x ∧ x ≤ 7) ∧ (-128 ≤ y ∧ y ≤ 127) := by
  unfold fitsA; rw [hf]; show (fitB "a" x && (fitB "far" y && true)) = true ↔ _; rw [fb_a, fb_far]; simp
theorem fa_c (hf : fi j = 4) : fitsA j [x] = true ↔ (0 ≤ x ∧ x ≤ 255) := by
  unfold fitsA; rw [hf]; show (fitB "byte" x && true) = true ↔ _; rw [fb_byte]; simp
theorem fa_k (hf : fi j = 5) : fitsA j [x, y] = true ↔ (0 ≤ x ∧ x ≤ 7) ∧ (0 ≤ y ∧ y ≤ 7) := by
  unfold fitsA; rw [hf]; show (fitB "a" x && (fitB "control" y && true)) = true ↔ _; rw [fb_a, fb_control]; simp
theorem fa_0 (hf : fi j = 6) : fitsA j [] = true := by
  unfold fitsA; rw [hf]; rfl
include hw hj ej
theorem dec_3 (hf : fi j = 0) : decI w = if w % 32 < 8 then some (j, [w / 256 % 8, w % 256 / 32, w % 32]) else none := by
  have hs : nsW w j = [w / 256 % 8, w % 256 / 32, w % 32] := by unfold nsW; rw [hf]; show [nuN w "a", nuN w "b", nuN w "c"] = _; rw [nu_a hw, nu_b hw, nu_c hw]
  rw [dec_at hj ej, hs]
  by_cases c : w % 32 < 8
  · rw [if_pos c, if_pos ⟨(fa_3 hf).mpr ⟨by omega, by omega, by omega⟩, by rw [wd_3 hf (by omega) (by omega)]; omega⟩]
  · rw [if_neg c, if_neg (fun h => c (by have := (fa_3 hf).mp h.1; omega))]
theorem dec_n (hf : fi j = 1) : decI w = some (j, [w / 256 % 8, w % 256 / 32, if w % 32 > 15 then w % 32 - 32 else w % 32]) := by
  have hs : nsW w j = [w / 256 % 8, w % 256 / 32, if w % 32 > 15 then w % 32 - 32 else w % 32] := by unfold nsW; rw [hf]; show [nuN w "a", nuN w "b", nuN w "near"] = _; rw [nu_a hw, nu_b hw, nu_near hw]
  rw [dec_at hj ej, hs, if_pos ⟨(fa_n hf).mpr ⟨by omega, by omega, by split <;> omega⟩, by rw [wd_n hf (by omega) (by omega)]; split <;> omega⟩]
theorem dec_b (hf : fi j = 2) : decI w = some (j, [w / 256 % 8, w % 256]) := by
  have hs : nsW w j = [w / 256 % 8, w % 256] := by unfold nsW; rw [hf]; show [nuN w "a", nuN w "byte"] = _; rw [nu_a hw, nu_byte hw]
  rw [dec_at hj ej, hs, if_pos ⟨(fa_b hf).mpr ⟨by omega, by omega⟩, by rw [wd_b hf (by omega)]; omega⟩]
theorem dec_f (hf : fi j = 3) : decI w = some (j, [w / 256 % 8, if w % 256 > 127 then w % 256 - 256 else w % 256]) := by
  have hs : nsW w j = [w / 256 % 8, if w % 256 > 127 then w % 256 - 256 else w % 256] := by unfold nsW; rw [hf]; show [nuN w "a", nuN w "far"] = _; rw [nu_a hw, nu_far hw]
  rw [dec_at hj ej, hs, if_pos ⟨(fa_f hf).mpr ⟨by omega, by split <;> omega⟩, by rw [wd_f hf (by omega)]; split <;> omega⟩]
theorem dec_c (hf : fi j = 4) : decI w = if w / 256 % 8 = 0 then some (j, [w % 256]) else none := by
  have hs : nsW w j = [w % 256] := by unfold nsW; rw [hf]; show [nuN w "byte"] = _; rw [nu_byte hw]
  rw [dec_at hj ej, hs]
  by_cases c : w / 256 % 8 = 0
  · rw [if_pos c, if_pos ⟨(fa_c hf).mpr (by omega), by rw [wd_c hf]; omega⟩]
  · rw [if_neg c, if_neg (fun h => c (by have := h.2; rw [wd_c hf] at this; omega))]
theorem dec_k (hf : fi j = 5) : decI w = if w % 256 < 8 then some (j, [w / 256 % 8, w % 256]) else none := by
  have hs : nsW w j = [w / 256 % 8, w % 256] := by unfold nsW; rw [hf]; show [nuN w "a", nuN w "control"] = _; rw [nu_a hw, nu_control hw]
  rw [dec_at hj ej, hs]
  by_cases c : w % 256 < 8
  · rw [if_pos c, if_pos ⟨(fa_k hf).mpr ⟨by omega, by omega⟩, by rw [wd_k hf (by omega)]; omega⟩]
  · rw [if_neg c, if_neg (fun h => c (by have := (fa_k hf).mp h.1; omega))]
theorem dec_0 (hf : fi j = 6) : decI w = if w % 2048 = 0 then some (j, []) else none := by
  have hs : nsW w j = [] := by unfold nsW; rw [hf]; rfl
  rw [dec_at hj ej, hs]
  by_cases c : w % 2048 = 0
  · rw [if_pos c, if_pos ⟨fa_0 hf, by rw [wd_0 hf]; omega⟩]
  · rw [if_neg c, if_neg (fun h => c (by have := h.2; rw [wd_0 hf] at this; omega))]
end
theorem ok_Ltold (T : Txt w K mg) : FnOk P w K mg base CX0 3 T.f_Ltold T.fd_Ltold ["_law_word_here"] (sp_dec K) := by
  have G_Lnames := ok_Lnames (P := P) (w := w) (base := base) T
  have G_Lform := ok_Lform (P := P) (w := w) (base := base) T
  refine T.F_Ltold.ok sc_Ltold (fun vs H Q E h => ?_) (fun cdv A outer s H vs Q E hr h => ?_)
  · obtain ⟨w0, R, P, rfl, hO, hw, k0, k1⟩ := h; rfl
  · obtain ⟨w0, R, P, rfl, hO, hw, k0, k1⟩ := h
    refine ⟨_, (pss_cons (ps_par (i := 1) (j := 2) rfl sc_Ltold.nd rfl rfl (by decide) rfl rfl (pa_cons (pe_op op_fdiv (pv 0) pe_int) (pa_cons (pe_op op_mod (pv 0) pe_int) pa_nil)) (by rfl))
        (pss_cons (ps_if (pt_not (pt_chain op_le op_le pe_int (pv 1) pe_int))
          (pss_one (ps_ret pe_non))
          pss_nil)
        (pss_cons (ps_set (i := 3) sc_Ltold.nd rfl (Or.inl rfl) (pe_ix ix_list (pe_call0 G_Lnames (hr.mono (by decide)) rfl T.g_Lnames T.F_Lnames.kp T.b_Lnames .nil pass0) (pe_op op_sub (pv 1) pe_int) (fun _ _ => rfl)))
        (pss_cons (ps_par (i := 4) (j := 5) rfl sc_Ltold.nd rfl rfl (by decide) rfl rfl (pa_cons (pe_call G_Lform (hr.mono (by decide)) rfl T.g_Lform T.F_Lform.kp T.b_Lform .nil pass0 (pa_cons (pv 3) pa_nil)) (pa_cons (pe_op op_mod (pe_op op_fdiv (pv 0) pe_int) pe_int) pa_nil)) (by rfl))
        (pss_cons (ps_if (pt_cmpR op_eq (pv 4) pe_str (nomark _))
          (pss_one (ps_ret (pe_ifExp (pt_cmpR op_eq (pe_op op_mod (pv 0) pe_int) pe_int (nomark _)) (pe_tup (pa_cons (pv 3) pa_nil)) pe_non)))
          pss_nil)
        (pss_cons (ps_if (pt_cmpR op_eq (pv 4) pe_str (nomark _))
          (pss_one (ps_ret (pe_ifExp (pt_cmpR op_eq (pv 5) pe_int (nomark _)) (pe_tup (pa_cons (pv 3) (pa_cons (pv 2) pa_nil))) pe_non)))
          pss_nil)
        (pss_cons (ps_if (pt_cmpR op_inL (pv 4) (pe_lst (pa_cons pe_str (pa_cons pe_str pa_nil))) (by rfl))
          (pss_cons (ps_set (i := 6) sc_Ltold.nd rfl (Or.inl rfl) (pe_op op_mod (pv 0) pe_int))
          (pss_cons (ps_if (pt_cmpR op_eq (pv 4) pe_str (nomark _))
            (pss_one (ps_ret (pe_ifExp (pt_cmpR op_lt (pv 6) pe_int (nomark _)) (pe_tup (pa_cons (pv 3) (pa_cons (pv 5) (pa_cons (pe_op op_fdiv (pv 2) pe_int) (pa_cons (pv 6) pa_nil))))) pe_non)))
            pss_nil)
          (pss_one (ps_ret (pe_tup (pa_cons (pv 3) (pa_cons (pv 5) (pa_cons (pe_op op_fdiv (pv 2) pe_int) (pa_cons (pe_ifExp (pt_cmpR op_gt (pv 6) pe_int (nomark _)) (pe_op op_sub (pv 6) pe_int) (pv 6)) pa_nil)))))))))
          pss_nil)
        (pss_cons (ps_if (PW.pt (pw_and (pt_cmpR op_eq (pv 4) pe_str (nomark _)) (pw_and1 (pt_cmpR op_gt (pv 2) pe_int (nomark _)))))
          (pss_one (ps_set (i := 2) sc_Ltold.nd rfl (Or.inl rfl) (pe_op op_sub (pv 2) pe_int)))
          pss_nil)
        (pss_one (ps_ret (pe_ifExp (PW.pt (pw_or (pt_cmpR op_ne (pv 4) pe_str (nomark _)) (pw_or1 (pt_cmpR op_lt (pv 2) pe_int (nomark _))))) (pe_tup (pa_cons (pv 3) (pa_cons (pv 5) (pa_cons (pv 2) pa_nil)))) pe_non))))))))))), ?_⟩
    clear G_Lnames G_Lform
    clear hr
    walk_at "go"
    refine iteD (fun h1 => ?_) (fun h1 => ?_)
    · walk_at "go"
      by_cases h2 : w0 / 2048 ≤ 26
      · rw [decide_eq_true h2]
        obtain ⟨j, ej⟩ : ∃ j : Nat, w0 / 2048 - 1 = (j : Int) := ⟨(w0 / 2048 - 1).toNat, by omega⟩
        have hj : j < 26 := by omega
        have hi7 := fi_lt hj
        have hnl : nmL.length = 26 := by decide +kernel
        have ad : atI (nmL.map V.str) (w0 / 2048 - 1) = some (.str (nm j)) := by
          rw [ej]
          refine atI_nat ?_
          rw [List.getElem?_map, nm, List.getD_eq_getElem?_getD, List.getElem?_eq_getElem (by omega)]; rfl
        walk_at "go"
        intro p H1 hO
        walk_at "go"
        intro H2 P2 sp2 hO
        walk_at "go"
        have hc : fi j = 0 ∨ fi j = 1 ∨ fi j = 2 ∨ fi j = 3 ∨ fi j = 4 ∨ fi j = 5 ∨ fi j = 6 := by omega
        rcases hc with hf | hf | hf | hf | hf | hf | hf
        all_goals rw [hf]
        · have hd := dec_3 hw hj ej hf
          walk_at "go"
          refine iteD (fun hz => ?_) (fun hz => ?_)
          · walk_at "go"
            replace hO := hO.derive (q := .sq p (insV j [w0 / 256 % 8, w0 % 256 / 32, w0 % 32])) (fun M h => SqT.of (h (Pf.tup p (insV j [w0 / 256 % 8, w0 % 256 / 32, w0 % 32])) (by walk_at "mem")))
            have hO2 := Own.sub (L' := R) hO (by walk_at "sbL") Ps.refl
            exact k1 j _ (by rw [hd, if_pos hz]) p _ _ (sp2.trans (Ps.skip (Ps.skip Ps.refl))) List.mem_cons_self hO2
          · walk_at "go"
            exact k0 (by rw [hd, if_neg hz]) _ P2 sp2 (Own.sub hO (by walk_at "sbL") Ps.refl)
        · have hd := dec_n hw hj ej hf
          walk_at "go"
          refine iteD (fun hz => ?_) (fun hz => ?_)
          · walk_at "go"
            replace hO := hO.derive (q := .sq p (insV j [w0 / 256 % 8, w0 % 256 / 32, w0 % 32 - 32])) (fun M h => SqT.of (h (Pf.tup p (insV j [w0 / 256 % 8, w0 % 256 / 32, w0 % 32 - 32])) (by walk_at "mem")))
            have hO2 := Own.sub (L' := R) hO (by walk_at "sbL") Ps.refl
            exact k1 j _ (by rw [hd, if_pos (by omega)]) p _ _ (sp2.trans (Ps.skip (Ps.skip Ps.refl))) List.mem_cons_self hO2
          · walk_at "go"
            replace hO := hO.derive (q := .sq p (insV j [w0 / 256 % 8, w0 % 256 / 32, w0 % 32])) (fun M h => SqT.of (h (Pf.tup p (insV j [w0 / 256 % 8, w0 % 256 / 32, w0 % 32])) (by walk_at "mem")))
            have hO2 := Own.sub (L' := R) hO (by walk_at "sbL") Ps.refl
            exact k1 j _ (by rw [hd, if_neg (by omega)]) p _ _ (sp2.trans (Ps.skip (Ps.skip Ps.refl))) List.mem_cons_self hO2
        · have hd := dec_b hw hj ej hf
          walk_at "go"
          replace hO := hO.derive (q := .sq p (insV j [w0 / 256 % 8, w0 % 256])) (fun M h => SqT.of (h (Pf.tup p (insV j [w0 / 256 % 8, w0 % 256])) (by walk_at "mem")))
          have hO2 := Own.sub (L' := R) hO (by walk_at "sbL") Ps.refl
          exact k1 j _ hd p _ _ (sp2.trans (Ps.skip (Ps.skip Ps.refl))) List.mem_cons_self hO2
        · have hd := dec_f hw hj ej hf
          walk_at "go"
          refine iteD (fun hz => ?_) (fun hz => ?_)
          · walk_at "go"
            replace hO := hO.derive (q := .sq p (insV j [w0 / 256 % 8, w0 % 256 - 256])) (fun M h => SqT.of (h (Pf.tup p (insV j [w0 / 256 % 8, w0 % 256 - 256])) (by walk_at "mem")))
            have hO2 := Own.sub (L' := R) hO (by walk_at "sbL") Ps.refl
            exact k1 j _ (by rw [hd, if_pos (by omega)]) p _ _ (sp2.trans (Ps.skip (Ps.skip Ps.refl))) List.mem_cons_self hO2
          · walk_at "go"
            replace hO := hO.derive (q := .sq p (insV j [w0 / 256 % 8, w0 % 256])) (fun M h => SqT.of (h (Pf.tup p (insV j [w0 / 256 % 8, w0 % 256])) (by walk_at "mem")))
            have hO2 := Own.sub (L' := R) hO (by walk_at "sbL") Ps.refl
            exact k1 j _ (by rw [hd, if_neg (by omega)]) p _ _ (sp2.trans (Ps.skip (Ps.skip Ps.refl))) List.mem_cons_self hO2
        · have hd := dec_c hw hj ej hf
          walk_at "go"
          refine iteD (fun hz => ?_) (fun hz => ?_)
          · walk_at "go"
            replace hO := hO.derive (q := .sq p (insV j [w0 % 256])) (fun M h => SqT.of (h (Pf.tup p (insV j [w0 % 256])) (by walk_at "mem")))
            have hO2 := Own.sub (L' := R) hO (by walk_at "sbL") Ps.refl
            exact k1 j _ (by rw [hd, if_pos (V.int.inj hz)]) p _ _ (sp2.trans (Ps.skip (Ps.skip Ps.refl))) List.mem_cons_self hO2
          · walk_at "go"
            exact k0 (by rw [hd, if_neg (fun z => hz (congrArg V.int z))]) _ P2 sp2 (Own.sub hO (by walk_at "sbL") Ps.refl)
        · have hd := dec_k hw hj ej hf
          walk_at "go"
          refine iteD (fun hz => ?_) (fun hz => ?_)
          · walk_at "go"
            replace hO := hO.derive (q := .sq p (insV j [w0 / 256 % 8, w0 % 256])) (fun M h => SqT.of (h (Pf.tup p (insV j [w0 / 256 % 8, w0 % 256])) (by walk_at "mem")))
            have hO2 := Own.sub (L' := R) hO (by walk_at "sbL") Ps.refl
            exact k1 j _ (by rw [hd, if_pos hz]) p _ _ (sp2.trans (Ps.skip (Ps.skip Ps.refl))) List.mem_cons_self hO2
          · walk_at "go"
            exact k0 (by rw [hd, if_neg hz]) _ P2 sp2 (Own.sub hO (by walk_at "sbL") Ps.refl)
        · have hd := dec_0 hw hj ej hf
          walk_at "go"
          refine iteD (fun hz => ?_) (fun hz => ?_)
          · walk_at "go"
            replace hO := hO.derive (q := .sq p (insV j [])) (fun M h => SqT.of (h (Pf.tup p (insV j [])) (by walk_at "mem")))
            have hO2 := Own.sub (L' := R) hO (by walk_at "sbL") Ps.refl
            exact k1 j _ (by rw [hd, if_pos (V.int.inj hz)]) p _ _ (sp2.trans (Ps.skip (Ps.skip Ps.refl))) List.mem_cons_self hO2
          · walk_at "go"
            exact k0 (by rw [hd, if_neg (fun z => hz (congrArg V.int z))]) _ P2 sp2 (Own.sub hO (by walk_at "sbL") Ps.refl)
      · rw [decide_eq_false h2]
        have hd : decI w0 = none := by unfold decI; rw [if_neg (fun h => h2 h.2)]
        walk_at "go"
        exact k0 hd _ _ Ps.refl hO
    · have hd : decI w0 = none := by unfold decI; rw [if_neg (fun h => h1 h.1)]
      walk_at "go"
      exact k0 hd _ _ Ps.refl hO
end
end K15

set_option Elab.async false
set_option linter.all false
set_option maxRecDepth 100000
set_option maxHeartbeats 8000000

namespace K15
open PySem PySem.Spec PyProof.Rows L2 Hx 
local macro_rules | `(tactic| walk_at "sm") => `(tactic| repeat' (first | assumption | apply Hx.Same.upd | exact L2.Same.refl _ | apply same_trans'))
local macro_rules | `(tactic| walk_at "hp") => `(tactic| repeat' (first | assumption | exact upd_same | apply old_upd | apply same_at))
local macro_rules | `(tactic| walk_at "rd") => `(tactic| repeat' (first | rfl | apply Exists.intro | apply And.intro | refine iteT ?_ | refine iteF ?_ | exact upd_same | exact SqL.of (by assumption) | exact SqL.of upd_same | exact SqT.of upd_same | exact SqT.of (by assumption) | ((with_reducible show (_ : Int) < _); omega) | ((with_reducible show (_ : Int) ≤ _); omega) | (show (_ : Prop); assumption) | exact Or.inl ⟨_, by assumption, rfl⟩ | exact Or.inl ⟨rfl, _, SqL.of (by assumption)⟩ | exact Or.inl ⟨rfl, _, SqL.of upd_same⟩ | apply old_upd | apply Hx.SqL.new | apply tyl_new | apply Pot.new | exact same_at (by assumption) (by assumption) | exact Or.inl (SqL.of (by assumption)) | exact Or.inl (by assumption) | exact Or.inl (SqL.of upd_same) | exact size_le (Nat.le_of_ble_eq_true rfl) | exact Nat.le_of_ble_eq_true rfl | exact True.intro | exact Or.inl rfl | exact Or.inr rfl | (show (_ : Prop); omega) | (show (_ : Prop); dsimp only; omega) | exact mulw64 (by omega) (by omega) | exact mulw64 (by (try dsimp only); omega) (by (try dsimp only); omega)))
local macro_rules | `(tactic| walk_at "mem") => `(tactic| ((repeat (first | exact List.Mem.head _ | apply List.Mem.tail | fail)); done))
local macro_rules | `(tactic| walk_at "setat") => `(tactic| ((repeat (first | (with_reducible exact At.head) | (with_reducible apply At.tail) | (with_reducible apply At.app) | fail)); done))
set_option hygiene false in
local macro_rules | `(tactic| walk_at "dv") => `(tactic| ((repeat' (first | exact Dv.nil | exact Dv.of (by walk_at "mem") | exact Dv.ints _ | exact Dv1.of (by walk_at "mem") | exact Dv1.int _ | exact Dv1.non | exact Dv1.bl _ | exact Dv1.str _ | (with_reducible apply Dv.cons) | refine Dv1.tup (by walk_at "mem") ?_ | refine Dv1.lst (by walk_at "mem") ?_ | (with_reducible apply Dv.app) | fail)); done))
local macro_rules | `(tactic| walk_at "ft") => `(tactic| (first | (with_reducible exact Ft.refl) | ((with_reducible apply Ft.toL); focus walk_at "dv") | ((with_reducible apply Ft.toS); focus assumption) | (with_reducible apply Ft.lst) | (with_reducible apply Ft.Le) | (with_reducible apply Ft.dK) | (with_reducible apply Ft.De) | (with_reducible apply Ft.ins) | (with_reducible apply Ft.toL) | (with_reducible apply Ft.toS) | (with_reducible apply Ft.toD) | fail))
local macro_rules | `(tactic| walk_at "sbL") => `(tactic| repeat' (first | (with_reducible exact Sb.refl _) | exact Sb.nil | (with_reducible apply Sb.cons) | (with_reducible apply Sb.app) | (with_reducible exact Pk.one) | (with_reducible exact Pk.here) | (with_reducible exact Pk.all) | (with_reducible apply Pk.skip1) | (with_reducible apply Pk.skipB) | (with_reducible apply Sb.skip) | (with_reducible apply Sb.skipB) | ((with_reducible show Ft _ _ _ _); walk_at "ft") | ((with_reducible show (_ : List _) = _); (first | rfl | (simp [List.map_set, List.map_append]; done) | fail)) | fail))
local macro_rules | `(tactic| walk_at "sb") => `(tactic| ((walk_at "sbL"); done))
local macro_rules | `(tactic| walk_at "ps") => `(tactic| ((repeat' (first | (with_reducible exact Ps.refl) | exact Ps.nil | (with_reducible apply Ps.cons) | exact List.Mem.head _ | apply List.Mem.tail | (with_reducible apply Ps.skip) | fail)); done))
set_option hygiene false in
local macro_rules | `(tactic| walk_at "at") => `(tactic| first | assumption | exact Own.raw hO (by walk_at "mem") | exact Own.ptup hO (by walk_at "mem") | exact Own.plst hO (by walk_at "mem") | fail)
set_option hygiene false in
local macro_rules | `(tactic| walk_at "st") => `(tactic| (rw [upd_mkO hO]; generalize e : updX _ _ _ = H1; (first | ((apply Own.cset hO e); (focus walk_at "setat"); (try clear hO e); intro hO) | ((apply Own.cnewT hO e); (focus assumption); (try clear hO e); intro hO) | ((apply Own.cnew hO e); (focus assumption); (try clear hO e); intro hO) | fail)))
set_option hygiene false in
local macro_rules | `(tactic| walk_at "mk") => `(tactic| (intro p1 p2 f1 f2 f3; rw [upd_mkO hO]; generalize e : upd (updX _ _ _) _ _ = H1; apply Own.cmake hO f1 f2 f3 e; (try clear hO e); intro hO))
set_option hygiene false in
local macro_rules | `(tactic| walk_at "own") => `(tactic| (first | ((apply Own.sub hO); (focus walk_at "sb"); (focus walk_at "ps")) | ((apply Own.sub hF); (focus walk_at "sb"); (focus walk_at "ps")) | fail))
set_option hygiene false in
local macro_rules | `(tactic| walk_at "fin") => `(tactic| (refine Own.sub hO ?_ (by walk_at "ps"); walk_at "sbL"))
set_option hygiene false in
local macro_rules | `(tactic| walk_at "g1") => `(tactic| (first
 | ((with_reducible show (_ : Option HO) = _); walk_at "at")
 | ((with_reducible show (_ : Int) < _); omega) | ((with_reducible show (_ : Int) ≤ _); omega)
 | ((with_reducible show (_ : Nat) < _); (first | assumption | exact Nat.le_of_ble_eq_true rfl | exact size_lt (Nat.le_of_ble_eq_true rfl) | omega | (simp; done) | (simp; omega) | fail))
 | ((with_reducible show (_ : Nat) ≤ _); (first | assumption | exact Nat.le_of_ble_eq_true rfl | exact size_le (Nat.le_of_ble_eq_true rfl) | omega | (simp; done) | (simp; omega) | fail))
 | ((with_reducible show (_ : Pf) ∈ _); (first | assumption | (focus walk_at "mem") | ((repeat (with_reducible apply List.mem_cons_of_mem)); assumption) | fail))
 | ((with_reducible show Own _ _ _ _); (first | walk_at "own" | (walk_at "st"; walk_at "own") | fail))
 | ((with_reducible show SqL _ _ _ _); (first | assumption | exact SqL.of (by walk_at "at") | fail))
 | ((with_reducible show SqT _ _ _ _); (first | assumption | exact hO.psq (by walk_at "mem") | exact hO.psq (by assumption) | exact SqT.of (by walk_at "at") | fail))
   | ((with_reducible show V.ref _ = V.ref _); (first | rfl | fail))
 | ((with_reducible show DGet _ _ _ _); (first | exact DGet.ki (by walk_at "at") (by assumption) | exact DGet.kiF (by walk_at "at") (by assumption) | fail))
 | ((with_reducible show DPut _ _ _ _ _); exact DPut.ki (by walk_at "at") (by assumption))
 | ((with_reducible show Rd _ _ _); (first | exact Or.inl (by walk_at "at") | exact Or.inr ⟨_, by walk_at "at"⟩ | fail))
 | ((with_reducible show (∃ _ : List (Key × V), _) ∨ _); refine Or.inl ⟨_, by walk_at "at", ?_⟩)
 | ((with_reducible show Dv _ _ _ _); focus walk_at "dv") | ((with_reducible show Dv1 _ _ _ _); focus walk_at "dv")
 | ((with_reducible show IsD _ _); exact Or.inl ⟨_, Or.inl (by walk_at "at")⟩)
 | ((with_reducible show V.int _ = kV _); exact kV_int)
 | ((with_reducible show Option.isSome _ = true); (first | exact isSome_ofV (by assumption) | assumption | fail))
 | ((with_reducible show SqL _ _ _ _ ∨ SqT _ _ _ _); (first | exact Or.inl (by assumption) | exact Or.inr (by assumption) | exact Or.inl (SqL.of (by walk_at "at")) | exact Or.inr (SqT.of (by walk_at "at")) | fail))
 | ((with_reducible show Dp _ _ _ _); (first | assumption | exact hO.dpL (by walk_at "mem") | exact .lst (SqL.of (by walk_at "at")) (hO.all (by walk_at "dv")) | exact hO.one (by walk_at "dv") | fail))
 | ((with_reducible show TruV _ _ _ _); (first | exact Or.inl ⟨_, SqL.of (by walk_at "at"), rfl⟩ | exact Or.inr (Or.inr ⟨_, by walk_at "at", rfl⟩) | exact Or.inr (Or.inl ⟨_, SqT.of (by walk_at "at"), rfl⟩) | fail))
 | ((with_reducible show RgOk _ _); exact RgOk.of_le (by omega) (by omega) (by omega) (by omega))
 | rfl | (with_reducible assumption) | apply And.intro | apply Exists.intro | refine iteT ?_ | refine iteF ?_
 | (walk_at "st"; (try walk_at "fl"))
 | ((with_reducible show ∀ _ : Addr, _ = none → _); (fail_if_success (with_reducible show ∀ _ : Addr, _ = none → ∃ _ : Nat → Nat → Hp → Prop, _)); intro p fp; walk_at "st")
 | (refine Or.inl ⟨SqL.of (by walk_at "at"), ?_⟩) | (refine Or.inr ⟨SqT.of (by walk_at "at"), ?_⟩) | exact Or.inl ⟨_, by walk_at "at", rfl⟩ | exact Or.inl ⟨rfl, _, SqL.of (by walk_at "at")⟩ | exact tyl_of (by walk_at "at") | exact Or.inl (SqL.of (by walk_at "at")) | exact Or.inr (SqT.of (by walk_at "at")) | exact Or.inl (by walk_at "at") | exact size_le (Nat.le_of_ble_eq_true rfl) | exact Nat.le_of_ble_eq_true rfl | exact True.intro | exact Or.inl rfl | exact Or.inr rfl | (show (_ : Prop); assumption) | (show (_ : Prop); omega) | (show (_ : Prop); dsimp only; omega) | exact mulw64 (by omega) (by omega) | exact mulw64 (by (try dsimp only); omega) (by (try dsimp only); omega) | fail))
local macro_rules | `(tactic| walk_at "go") => `(tactic| repeat walk_at "g1")

section
variable {P : Program} {w : World} {K : PySem.W.Frag} {mg : Str → Option Value} {base : Heap}
def sp_Ldrawn (K : PySem.W.Frag) : Sp := fun vs H Q _ => ∃ (pa : Addr) (R : List (Addr × Ob)) (P : List Pf), vs = [.ref pa] ∧ Own K H (pt pa ++ R) P ∧ ∀ (a : Addr) (j : Nat) (ns : List Int) (H' : Hp) (P' : List Pf), OkI j ns → Pf.sq a (insV j ns) ∈ P' → Ps P P' → Own K H' (pt pa ++ R) P' → Q (.ref a) H'
theorem nm_at {i : Nat} {v : V} (h : (nmL.map V.str)[i]? = some v) : ∃ j, j < 26 ∧ v = .str (nm j) := by
  rw [List.getElem?_map] at h
  obtain ⟨x, hx, rfl⟩ := Option.map_eq_some_iff.mp h
  have hi := (List.getElem?_eq_some_iff.mp hx).1
  refine ⟨i, hi, ?_⟩
  rw [nm, List.getD_eq_getElem?_getD, hx]; rfl
def loN (i : Nat) : Int := ([0, -16, 0, -128, 0, 0, 0] : List Int).getD i 0
def hiN (i : Nat) : Int := ([0, 15, 255, 127, 255, 7, 0] : List Int).getD i 0
theorem rgN_b {i : Nat} (h : i < 7) : 0 ≤ rgN i ∧ rgN i ≤ 3 := by
  have z : ∀ i < 7, 0 ≤ rgN i ∧ rgN i ≤ 3 := by decide +kernel
  exact z i h
theorem shp {i : Nat} (h : i < 7) : (lsV i = .non ∧ (rgN i).toNat = (ptN i).length ∧ ∀ (k : Nat) (p : Str), (ptN i)[k]? = some p → (Hx.pa p).2.2 = (0, 7)) ∨
    (∃ lo hi : Int, lsV i = .int lo ∧ mtV i = .int hi ∧ -1000 ≤ lo ∧ lo ≤ hi ∧ hi ≤ 1000 ∧ (ptN i).length = (rgN i).toNat + 1 ∧ ∀ (k : Nat) (p : Str), (ptN i)[k]? = some p → (k < (rgN i).toNat ∧ (Hx.pa p).2.2 = (0, 7)) ∨ (k = (rgN i).toNat ∧ (Hx.pa p).2.2 = (lo, hi))) := by
  have z : ∀ i < 7, (i = 0 ∨ i = 6 → (rgN i).toNat = (ptN i).length ∧ (ptN i).all (fun p => decide ((Hx.pa p).2.2 = (0, 7))) = true) ∧
      (¬ (i = 0 ∨ i = 6) → -1000 ≤ loN i ∧ loN i ≤ hiN i ∧ hiN i ≤ 1000 ∧ (ptN i).length = (rgN i).toNat + 1 ∧ (ptN i).zipIdx.all (fun z => decide ((z.2 < (rgN i).toNat ∧ (Hx.pa z.1).2.2 = (0, 7)) ∨ (z.2 = (rgN i).toNat ∧ (Hx.pa z.1).2.2 = (loN i, hiN i)))) = true) := by decide +kernel
  by_cases c : i = 0 ∨ i = 6
  · obtain ⟨z1, z2⟩ := (z i h).1 c
    refine .inl ⟨?_, z1, fun k p e => of_decide_eq_true (List.all_eq_true.mp z2 p (List.mem_of_getElem? e))⟩
    rcases c with rfl | rfl <;> rfl
  · obtain ⟨z1, z2, z3, z4, z5⟩ := (z i h).2 c
    refine .inr ⟨loN i, hiN i, ?_, ?_, z1, z2, z3, z4, fun k p e => of_decide_eq_true (List.all_eq_true.mp z5 (p, k) (List.mk_mem_zipIdx_iff_getElem?.mpr e))⟩
    all_goals
      match i, h, c with
      | 0, _, c => exact absurd (Or.inl rfl) c
      | 1, _, _ => rfl
      | 2, _, _ => rfl
      | 3, _, _ => rfl
      | 4, _, _ => rfl
      | 5, _, _ => rfl
      | 6, _, c => exact absurd (Or.inr rfl) c
theorem ok_Ldrawn (T : Txt w K mg) : FnOk P w K mg base CX0 3 T.f_Ldrawn T.fd_Ldrawn ["_law_pot_here"] (sp_Ldrawn K) := by
  have G_Lpick := ok_Lpick (P := P) (w := w) (base := base) T
  have G_Lnames := ok_Lnames (P := P) (w := w) (base := base) T
  have G_Lshape := ok_Lshape (P := P) (w := w) (base := base) T
  have G_Lform := ok_Lform (P := P) (w := w) (base := base) T
  have G_Ldraw := ok_Ldraw (P := P) (w := w) (base := base) T
  refine T.F_Ldrawn.ok sc_Ldrawn (fun vs H Q E h => ?_) (fun cdv A outer s H vs Q E hr h => ?_)
  · obtain ⟨pa, R, P, rfl, hO, k⟩ := h; rfl
  · obtain ⟨pa, R, P, rfl, hO, k⟩ := h
    refine ⟨_, (pss_cons (ps_set (i := 1) sc_Ldrawn.nd rfl (Or.inl rfl) (pe_call G_Lpick (hr.mono (by decide)) rfl T.g_Lpick T.F_Lpick.kp T.b_Lpick .nil pass0 (pa_cons (pv 0) (pa_cons (pe_call0 G_Lnames (hr.mono (by decide)) rfl T.g_Lnames T.F_Lnames.kp T.b_Lnames .nil pass0) pa_nil))))
        (pss_cons (ps_asg (pe_call G_Lshape (hr.mono (by decide)) rfl T.g_Lshape T.F_Lshape.kp T.b_Lshape .nil pass0 (pa_cons (pe_call G_Lform (hr.mono (by decide)) rfl T.g_Lform T.F_Lform.kp T.b_Lform .nil pass0 (pa_cons (pv 1) pa_nil)) pa_nil)) (pg_tup rfl (pgs_cons (pg_name (i := 2) sc_Ldrawn.nd rfl (Or.inl rfl)) (pgs_cons (pg_name (i := 3) sc_Ldrawn.nd rfl (Or.inl rfl)) (pgs_cons (pg_name (i := 4) sc_Ldrawn.nd rfl (Or.inl rfl)) pgs_nil)))))
        (pss_cons (ps_set (i := 5) sc_Ldrawn.nd rfl (Or.inl rfl) (pe_lst pa_nil))
        (pss_cons (ps_forS PassesOwn.never rfl (pi_range1 rfl T.m_range (pa_cons (pv 2) pa_nil)) (pg_name (i := 6) sc_Ldrawn.nd rfl (Or.inl rfl))
          (pss_one (ps_expr (pe_bm PySem.F.plainAttrs_list PySem.F.slot_list_append PySem.F.type_list_append mt_append (pv 5) (pa_cons (pe_call G_Ldraw (hr.mono (by decide)) rfl T.g_Ldraw T.F_Ldraw.kp T.b_Ldraw .nil pass0 (pa_cons (pv 0) (pa_cons pe_int pa_nil))) pa_nil)))))
        (pss_cons (ps_mid (ps_if (pt_cmpR op_notN (pv 3) pe_non (nomark _))
          (pss_cons (ps_set (i := 7) sc_Ldrawn.nd rfl (Or.inl rfl) (pe_op op_add (pv 3) (pe_call G_Ldraw (hr.mono (by decide)) rfl T.g_Ldraw T.F_Ldraw.kp T.b_Ldraw .nil pass0 (pa_cons (pv 0) (pa_cons (pe_op op_add (pe_op op_sub (pv 4) (pv 3)) pe_int) pa_nil)))))
          (pss_one (ps_expr (pe_bm PySem.F.plainAttrs_list PySem.F.slot_list_append PySem.F.type_list_append mt_append (pv 5) (pa_cons (pe_call G_Lpick (hr.mono (by decide)) rfl T.g_Lpick T.F_Lpick.kp T.b_Lpick .nil pass0 (pa_cons (pv 0) (pa_cons (pe_lst (pa_cons (pv 7) (pa_cons (pv 7) (pa_cons (pv 3) (pa_cons (pv 4) pa_nil))))) pa_nil))) pa_nil)))))
          pss_nil))
        (pss_one (ps_ret (pe_op op_catT (pe_tup (pa_cons (pv 1) pa_nil)) (pe_callTy call_tuple_of (by rfl) T.m_tuple (by decide +kernel) (pa_cons (pv 5) pa_nil)))))))))), ?_⟩
    clear G_Lpick G_Lnames G_Lshape G_Lform G_Ldraw
    clear hr
    walk_at "go"
    intro p H1 hO
    walk_at "go"
    intro iv v H2 hv hO
    obtain ⟨j, hj, rfl⟩ := nm_at hv
    clear hv
    walk_at "go"
    intro H3 P3 sp3 hO
    have hi7 := fi_lt hj
    walk_at "go"
    intro ps H4 hO
    have hr0 := rgN_b hi7
    walk_at "go"
    refine keepPs hO fun P4 m4 sp4 hO => ?_
    refine ⟨for_range (n := (rgN (fi j)).toNat) (fun i σ H' => Stop (∃ (xs : List Int) (t6 t7 : Option V), σ = [some (.ref pa), some (.str (nm j)), some (.int (rgN (fi j))), some (lsV (fi j)), some (mtV (fi j)), some (.ref p), t6, t7] ∧ xs.length = i ∧ (∀ x ∈ xs, 0 ≤ x ∧ x < 8) ∧ Own K H' (pt pa ++ ((p, .raw (.lst (xs.map V.int))) :: R)) P4)) ⟨⟨[], none, none, rfl, rfl, (fun _ h => nomatch h), ?_⟩⟩ (fun i σ H' hi h => ?_) (fun σ H' h => ?_)⟩
    · exact Own.sub hO (by walk_at "sbL") Ps.refl
    · clear hO
      obtain ⟨xs, t6, t7, rfl, hx, hb, hO⟩ := h.h
      clear h
      have hi3 : i < 3 := by omega
      have szx : (xs.map V.int).length < sizeLine := size_lt (by rw [List.length_map]; omega)
      walk_at "go"
      intro d H5 d0 d1 hO
      walk_at "go"
      refine ⟨⟨xs ++ [d], _, _, rfl, by rw [List.length_append, hx]; rfl, fun x hxm => ?_, ?_⟩⟩
      · rcases List.mem_append.mp hxm with z | z
        · exact hb x z
        · obtain rfl := List.mem_singleton.mp z
          exact ⟨d0, d1⟩
      · rw [List.map_append]
        walk_at "fin"
    · clear hO
      obtain ⟨xs, t6, t7, rfl, hx, hb, hO⟩ := h.h
      clear h
      refine Stop.mk ⟨fun σ' H' => Stop (∃ (zs : List Int) (t6 t7 : Option V) (P5 : List Pf), σ' = [some (.ref pa), some (.str (nm j)), some (.int (rgN (fi j))), some (lsV (fi j)), some (mtV (fi j)), some (.ref p), t6, t7] ∧ OkI j zs ∧ Ps P4 P5 ∧ Own K H' (pt pa ++ ((p, .raw (.lst (zs.map V.int))) :: R)) P5), ?_, fun σ' H' hM => ?_⟩
      · rcases shp hi7 with ⟨e1, e2, e3⟩ | ⟨lo, hi, e1, e2, l0, l1, l2, e3, e4⟩
        · rw [e1]
          walk_at "go"
          refine Stop.mk ⟨xs, t6, t7, P4, rfl, ⟨hj, by omega, fun k q n f1 f2 => ?_⟩, Ps.refl, hO⟩
          have h1 := hb n (List.mem_of_getElem? f2)
          rw [e3 k q f1]
          exact ⟨h1.1, by show n ≤ 7; omega⟩
        · rw [e1, e2]
          walk_at "go"
          intro d H5 d0 d1 hO
          walk_at "go"
          intro iv v H6 hv hO
          obtain ⟨n, rfl, hn0, hn1⟩ : ∃ n, v = .int n ∧ lo ≤ n ∧ n ≤ hi := by
            have hm := List.mem_of_getElem? hv
            simp only [List.mem_cons, List.not_mem_nil, or_false] at hm
            rcases hm with rfl | rfl | rfl | rfl <;> exact ⟨_, rfl, by omega, by omega⟩
          clear hv
          have szx : (xs.map V.int).length < sizeLine := size_lt (by rw [List.length_map]; omega)
          walk_at "go"
          refine Stop.mk ⟨xs ++ [n], _, _, P4, rfl, ⟨hj, by rw [List.length_append, hx, e3]; rfl, fun k q m f1 f2 => ?_⟩, Ps.refl, ?_⟩
          · rcases e4 k q f1 with ⟨c1, c2⟩ | ⟨c1, c2⟩
            · rw [List.getElem?_append_left (by omega)] at f2
              have h1 := hb m (List.mem_of_getElem? f2)
              rw [c2]
              exact ⟨h1.1, by show m ≤ 7; omega⟩
            · rw [List.getElem?_append_right (by omega), c1, hx, Nat.sub_self] at f2
              obtain rfl := Option.some.inj f2
              rw [c2]
              exact ⟨hn0, hn1⟩
          · rw [List.map_append]
            walk_at "fin"
      clear hO
      obtain ⟨zs, u6, u7, P5, rfl, hI, sp5, hO⟩ := hM.h
      clear hM
      have hzl := hI.len
      have hpl := ptN_le hi7
      have szz : (zs.map V.int).length ≤ sizeLine := size_le (by rw [List.length_map]; omega)
      walk_at "go"
      · exact List.cons_ne_nil _ _
      rename_i q0 fq0 H10
      refine ⟨size_le (by rw [List.length_map]; show 1 + zs.length ≤ 10000; omega), fun hz => ?_, fun hz q fq => ?_⟩
      · obtain rfl : zs = [] := List.map_eq_nil_iff.mp hz
        replace hO := hO.derive (q := .sq q0 (insV j [])) (fun M h => SqT.of (h (Pf.tup q0 [.str (nm j)]) (by walk_at "mem")))
        have hO2 := Own.sub (L' := pt pa ++ R) hO (by walk_at "sbL") Ps.refl
        exact k q0 j [] _ _ hI (by walk_at "mem") (sp3.trans (sp4.trans (sp5.trans (Ps.skip (Ps.skip (Ps.skip Ps.refl)))))) hO2
      · walk_at "st"
        replace hO := hO.derive (q := .sq q (insV j zs)) (fun M h => SqT.of (h (Pf.tup q ([V.str (nm j)] ++ zs.map V.int)) (by walk_at "mem")))
        have hO2 := Own.sub (L' := pt pa ++ R) hO (by walk_at "sbL") Ps.refl
        exact k q j zs _ _ hI (by walk_at "mem") (sp3.trans (sp4.trans (sp5.trans (Ps.skip (Ps.skip (Ps.skip (Ps.skip Ps.refl))))))) hO2
end
end K15

set_option Elab.async false
set_option linter.all false
set_option maxRecDepth 100000
set_option maxHeartbeats 8000000

namespace K15
open PySem PySem.Spec PyProof.Rows L2 Hx 
local macro_rules | `(tactic| walk_at "sm") => `(tactic| repeat' (first | assumption | apply Hx.Same.upd | exact L2.Same.refl _ | apply same_trans'))
local macro_rules | `(tactic| walk_at "hp") => `(tactic| repeat' (first | assumption | exact upd_same | apply old_upd | apply same_at))
local macro_rules | `(tactic| walk_at "rd") => `(tactic| repeat' (first | rfl | apply Exists.intro | apply And.intro | refine iteT ?_ | refine iteF ?_ | exact upd_same | exact SqL.of (by assumption) | exact SqL.of upd_same | exact SqT.of upd_same | exact SqT.of (by assumption) | ((with_reducible show (_ : Int) < _); omega) | ((with_reducible show (_ : Int) ≤ _); omega) | (show (_ : Prop); assumption) | exact Or.inl ⟨_, by assumption, rfl⟩ | exact Or.inl ⟨rfl, _, SqL.of (by assumption)⟩ | exact Or.inl ⟨rfl, _, SqL.of upd_same⟩ | apply old_upd | apply Hx.SqL.new | apply tyl_new | apply Pot.new | exact same_at (by assumption) (by assumption) | exact Or.inl (SqL.of (by assumption)) | exact Or.inl (by assumption) | exact Or.inl (SqL.of upd_same) | exact size_le (Nat.le_of_ble_eq_true rfl) | exact Nat.le_of_ble_eq_true rfl | exact True.intro | exact Or.inl rfl | exact Or.inr rfl | (show (_ : Prop); omega) | (show (_ : Prop); dsimp only; omega) | exact mulw64 (by omega) (by omega) | exact mulw64 (by (try dsimp only); omega) (by (try dsimp only); omega)))
local macro_rules | `(tactic| walk_at "mem") => `(tactic| ((repeat (first | exact List.Mem.head _ | apply List.Mem.tail | fail)); done))
local macro_rules | `(tactic| walk_at "setat") => `(tactic| ((repeat (first | (with_reducible exact At.head) | (with_reducible apply At.tail) | (with_reducible apply At.app) | fail)); done))
set_option hygiene false in
local macro_rules | `(tactic| walk_at "dv") => `(tactic| ((repeat' (first | exact Dv.nil | exact Dv.of (by walk_at "mem") | exact Dv.ints _ | exact Dv1.of (by walk_at "mem") | exact Dv1.int _ | exact Dv1.non | exact Dv1.bl _ | exact Dv1.str _ | (with_reducible apply Dv.cons) | refine Dv1.tup (by walk_at "mem") ?_ | refine Dv1.lst (by walk_at "mem") ?_ | (with_reducible apply Dv.app) | fail)); done))
local macro_rules | `(tactic| walk_at "ft") => `(tactic| (first | (with_reducible exact Ft.refl) | ((with_reducible apply Ft.toL); focus walk_at "dv") | ((with_reducible apply Ft.toS); focus assumption) | (with_reducible apply Ft.lst) | (with_reducible apply Ft.Le) | (with_reducible apply Ft.dK) | (with_reducible apply Ft.De) | (with_reducible apply Ft.ins) | (with_reducible apply Ft.toL) | (with_reducible apply Ft.toS) | (with_reducible apply Ft.toD) | fail))
local macro_rules | `(tactic| walk_at "sbL") => `(tactic| repeat' (first | (with_reducible exact Sb.refl _) | exact Sb.nil | (with_reducible apply Sb.cons) | (with_reducible apply Sb.app) | (with_reducible exact Pk.one) | (with_reducible exact Pk.here) | (with_reducible exact Pk.all) | (with_reducible apply Pk.skip1) | (with_reducible apply Pk.skipB) | (with_reducible apply Sb.skip) | (with_reducible apply Sb.skipB) | ((with_reducible show Ft _ _ _ _); walk_at "ft") | ((with_reducible show (_ : List _) = _); (first | rfl | (simp [List.map_set, List.map_append]; done) | fail)) | fail))
local macro_rules | `(tactic| walk_at "sb") => `(tactic| ((walk_at "sbL"); done))
local macro_rules | `(tactic| walk_at "ps") => `(tactic| ((repeat' (first | (with_reducible exact Ps.refl) | exact Ps.nil | (with_reducible apply Ps.cons) | exact List.Mem.head _ | apply List.Mem.tail | (with_reducible apply Ps.skip) | fail)); done))
set_option hygiene false in
local macro_rules | `(tactic| walk_at "at") => `(tactic| first | assumption | exact Own.raw hO (by walk_at "mem") | exact Own.ptup hO (by walk_at "mem") | exact Own.plst hO (by walk_at "mem") | fail)
set_option hygiene false in
local macro_rules | `(tactic| walk_at "st") => `(tactic| (rw [upd_mkO hO]; generalize e : updX _ _ _ = H1; (first | ((apply Own.cset hO e); (focus walk_at "setat"); (try clear hO e); intro hO) | ((apply Own.cnewT hO e); (focus assumption); (try clear hO e); intro hO) | ((apply Own.cnew hO e); (focus assumption); (try clear hO e); intro hO) | fail)))
set_option hygiene false in
local macro_rules | `(tactic| walk_at "mk") => `(tactic| (intro p1 p2 f1 f2 f3; rw [upd_mkO hO]; generalize e : upd (updX _ _ _) _ _ = H1; apply Own.cmake hO f1 f2 f3 e; (try clear hO e); intro hO))
set_option hygiene false in
local macro_rules | `(tactic| walk_at "own") => `(tactic| (first | ((apply Own.sub hO); (focus walk_at "sb"); (focus walk_at "ps")) | ((apply Own.sub hF); (focus walk_at "sb"); (focus walk_at "ps")) | fail))
set_option hygiene false in
local macro_rules | `(tactic| walk_at "fin") => `(tactic| (refine Own.sub hO ?_ (by walk_at "ps"); walk_at "sbL"))
set_option hygiene false in
local macro_rules | `(tactic| walk_at "g1") => `(tactic| (first
 | ((with_reducible show (_ : Option HO) = _); walk_at "at")
 | ((with_reducible show (_ : Int) < _); omega) | ((with_reducible show (_ : Int) ≤ _); omega)
 | ((with_reducible show (_ : Nat) < _); (first | assumption | exact Nat.le_of_ble_eq_true rfl | exact size_lt (Nat.le_of_ble_eq_true rfl) | omega | (simp; done) | (simp; omega) | fail))
 | ((with_reducible show (_ : Nat) ≤ _); (first | assumption | exact Nat.le_of_ble_eq_true rfl | exact size_le (Nat.le_of_ble_eq_true rfl) | omega | (simp; done) | (simp; omega) | fail))
 | ((with_reducible show (_ : Pf) ∈ _); (first | assumption | (focus walk_at "mem") | ((repeat (with_reducible apply List.mem_cons_of_mem)); assumption) | fail))
 | ((with_reducible show Own _ _ _ _); (first | walk_at "own" | (walk_at "st"; walk_at "own") | fail))
 | ((with_reducible show SqL _ _ _ _); (first | assumption | exact SqL.of (by walk_at "at") | fail))
 | ((with_reducible show SqT _ _ _ _); (first | assumption | exact hO.psq (by walk_at "mem") | exact hO.psq (by assumption) | exact SqT.of (by walk_at "at") | fail))
   | ((with_reducible show V.ref _ = V.ref _); (first | rfl | fail))
 | ((with_reducible show DGet _ _ _ _); (first | exact DGet.ki (by walk_at "at") (by assumption) | exact DGet.kiF (by walk_at "at") (by assumption) | fail))
 | ((with_reducible show DPut _ _ _ _ _); exact DPut.ki (by walk_at "at") (by assumption))
 | ((with_reducible show Rd _ _ _); (first | exact Or.inl (by walk_at "at") | exact Or.inr ⟨_, by walk_at "at"⟩ | fail))
 | ((with_reducible show (∃ _ : List (Key × V), _) ∨ _); refine Or.inl ⟨_, by walk_at "at", ?_⟩)
 | ((with_reducible show Dv _ _ _ _); focus walk_at "dv") | ((with_reducible show Dv1 _ _ _ _); focus walk_at "dv")
 | ((with_reducible show IsD _ _); exact Or.inl ⟨_, Or.inl (by walk_at "at")⟩)
 | ((with_reducible show V.int _ = kV _); exact kV_int)
 | ((with_reducible show Option.isSome _ = true); (first | exact isSome_ofV (by assumption) | assumption | fail))
 | ((with_reducible show SqL _ _ _ _ ∨ SqT _ _ _ _); (first | exact Or.inl (by assumption) | exact Or.inr (by assumption) | exact Or.inl (SqL.of (by walk_at "at")) | exact Or.inr (SqT.of (by walk_at "at")) | fail))
 | ((with_reducible show Dp _ _ _ _); (first | assumption | exact hO.dpL (by walk_at "mem") | exact .lst (SqL.of (by walk_at "at")) (hO.all (by walk_at "dv")) | exact hO.one (by walk_at "dv") | fail))
 | ((with_reducible show TruV _ _ _ _); (first | exact Or.inl ⟨_, SqL.of (by walk_at "at"), rfl⟩ | exact Or.inr (Or.inr ⟨_, by walk_at "at", rfl⟩) | exact Or.inr (Or.inl ⟨_, SqT.of (by walk_at "at"), rfl⟩) | fail))
 | ((with_reducible show RgOk _ _); exact RgOk.of_le (by omega) (by omega) (by omega) (by omega))
 | rfl | (with_reducible assumption) | apply And.intro | apply Exists.intro | refine iteT ?_ | refine iteF ?_
 | (walk_at "st"; (try walk_at "fl"))
 | ((with_reducible show ∀ _ : Addr, _ = none → _); (fail_if_success (with_reducible show ∀ _ : Addr, _ = none → ∃ _ : Nat → Nat → Hp → Prop, _)); intro p fp; walk_at "st")
 | (refine Or.inl ⟨SqL.of (by walk_at "at"), ?_⟩) | (refine Or.inr ⟨SqT.of (by walk_at "at"), ?_⟩) | exact Or.inl ⟨_, by walk_at "at", rfl⟩ | exact Or.inl ⟨rfl, _, SqL.of (by walk_at "at")⟩ | exact tyl_of (by walk_at "at") | exact Or.inl (SqL.of (by walk_at "at")) | exact Or.inr (SqT.of (by walk_at "at")) | exact Or.inl (by walk_at "at") | exact size_le (Nat.le_of_ble_eq_true rfl) | exact Nat.le_of_ble_eq_true rfl | exact True.intro | exact Or.inl rfl | exact Or.inr rfl | (show (_ : Prop); assumption) | (show (_ : Prop); omega) | (show (_ : Prop); dsimp only; omega) | exact mulw64 (by omega) (by omega) | exact mulw64 (by (try dsimp only); omega) (by (try dsimp only); omega) | fail))
local macro_rules | `(tactic| walk_at "go") => `(tactic| repeat walk_at "g1")

section
variable {P : Program} {w : World} {K : PySem.W.Frag} {mg : Str → Option Value} {base : Heap}
theorem sh_small {n : Int} (h : -1000 ≤ n ∧ n ≤ 1000) : Sh 0 20 (.int n) := by
  have z : ∀ k : Nat, k < 2001 → (Str.ofString (toString ((k : Int) - 1000))).length ≤ 20 := by decide +kernel
  refine ⟨?_, by rw [PyData.hasDict], by simp [PyData.depth], ?_⟩
  · rw [PyData.showable]
    refine decide_eq_true ?_
    by_cases z : n.natAbs = 0
    · rw [z]; decide
    · refine Nat.lt_trans (m := 67) ?_ (by decide)
      rw [Nat.log2_lt z]
      omega
  · rw [PyData.shown]
    have e := z (n + 1000).toNat (by omega)
    rw [show (((n + 1000).toNat : Nat) : Int) - 1000 = n from by omega] at e
    exact e
theorem sh_nm {j : Nat} (h : j < 26) : Sh 0 20 (.str (nm j)) := by
  have z : ∀ j < 26, (reprText (nm j)).length ≤ 20 := by decide +kernel
  refine ⟨by rw [PyData.showable], by rw [PyData.hasDict], by simp [PyData.depth], ?_⟩
  rw [PyData.shown]
  exact z j h
def insD (j : Nat) (ns : List Int) : PyData := .tuple (.str (nm j) :: ns.map PyData.int)
theorem ok_bd2 {j : Nat} {ns : List Int} (h : OkI j ns) : ∀ n ∈ ns, -1000 ≤ n ∧ n ≤ 1000 := fun n hn => by
  obtain ⟨k, hk, rfl⟩ := List.mem_iff_getElem.mp hn
  have hk2 : k < (ptN (fi j)).length := by rw [← h.len]; exact hk
  have f := h.fit k _ _ (List.getElem?_eq_getElem hk2) (List.getElem?_eq_getElem hk)
  have b := pa_bd (fi_lt h.hj) (List.getElem_mem hk2)
  omega
theorem sh_ins {j : Nat} {ns : List Int} (h : OkI j ns) : Sh 1 2225 (insD j ns) := by
  refine sh_tup (k := 0) (b := 20) 101 (fun d hd => ?_) (by rw [List.length_cons, List.length_map, h.len]; have := ptN_le (fi_lt h.hj); omega)
  rcases List.mem_cons.mp hd with rfl | hd
  · exact sh_nm h.hj
  · obtain ⟨n, hn, rfl⟩ := List.mem_map.mp hd
    exact sh_small (ok_bd2 h n hn)
theorem dp_is {K : PySem.W.Frag} {H : Hp} : ∀ ns : List Int, DpAll K H (ns.map V.int) (ns.map PyData.int)
  | [] => .nil
  | n :: r => .cons (.int n) (dp_is r)
theorem dp_ins {K : PySem.W.Frag} {H : Hp} {a : Addr} {j : Nat} {ns : List Int} (h : SqT K H a (insV j ns)) : Dp K H (.ref a) (insD j ns) := .tup h (.cons (.str _) (dp_is ns))
theorem ok_rep {j : Nat} {ns : List Int} (h : OkI j ns) : (∃ ds, insD j ns = .tuple ds) ∧ (insD j ns).showable = true ∧ (insD j ns).hasDict = false ∧ (insD j ns).depth ≤ 64 ∧ (insD j ns).shown.length ≤ sizeLine := by
  have x := sh_ins h
  exact ⟨⟨_, rfl⟩, x.sw, x.nd, Nat.le_trans x.dp (by decide), Nat.le_trans x.ln (size_le (by decide))⟩
theorem zip_inv {α β : Type} {f : α → β → Bool} : ∀ {as : List α} {bs : List β}, (List.zipWith f as bs).all id = true → ∀ (k : Nat) (a : α) (b : β), as[k]? = some a → bs[k]? = some b → f a b = true
  | [], _, _, k, a, b, e, _ => by simp at e
  | _ :: _, [], _, k, a, b, _, e => by simp at e
  | x :: as, y :: bs, h, k, a, b, e1, e2 => by
    rw [List.zipWith_cons_cons, List.all_cons, Bool.and_eq_true] at h
    cases k with
    | zero => obtain rfl := Option.some.inj e1; obtain rfl := Option.some.inj e2; exact h.1
    | succ k => exact zip_inv h.2 k a b e1 e2
theorem dec_inv {w : Int} {j : Nat} {ns : List Int} (hw : 0 ≤ w ∧ w < 65536) (h : decI w = some (j, ns)) : OkI j ns ∧ wdN j ns = w := by
  unfold decI at h
  split at h
  next h1 =>
    split at h
    next h2 =>
      obtain ⟨e1, e2⟩ := Prod.mk.inj (Option.some.inj h)
      have hj : (w / 2048 - 1).toNat < 26 := by omega
      generalize (w / 2048 - 1).toNat = i at *
      subst e1; subst e2
      refine ⟨⟨hj, List.length_map _, fun k p n e1 e2 => ?_⟩, h2.2⟩
      have := zip_inv h2.1 k n p e2 e1
      exact of_decide_eq_true this
    next => exact nomatch h
  next => exact nomatch h
theorem dec_ok {j : Nat} {ns : List Int} (h : OkI j ns) : decI (wdN j ns) = some (j, ns) ∧ (0 ≤ wdN j ns ∧ wdN j ns < 65536) ∧ wdN j ns / 2048 = (j : Int) + 1 := by
  have hj := h.hj
  have hi7 := fi_lt hj
  have hf := fits_ok h
  have hl := h.len
  have hc : fi j = 0 ∨ fi j = 1 ∨ fi j = 2 ∨ fi j = 3 ∨ fi j = 4 ∨ fi j = 5 ∨ fi j = 6 := by omega
  rcases hc with e | e | e | e | e | e | e
  · obtain ⟨x, y, z, rfl⟩ := l3 (by rw [hl, e]; rfl)
    have b := (fa_3 e).mp hf
    have ew := wd_3 (z := z) e b.1 b.2.1
    generalize wdN j [x, y, z] = w at ew ⊢
    have hw : 0 ≤ w ∧ w < 65536 := by omega
    rw [dec_3 hw hj (by omega) e, if_pos (by omega), show w / 256 % 8 = x from by omega, show w % 256 / 32 = y from by omega, show w % 32 = z from by omega]
    exact ⟨rfl, hw, by omega⟩
  · obtain ⟨x, y, z, rfl⟩ := l3 (by rw [hl, e]; rfl)
    have b := (fa_n e).mp hf
    have ew := wd_n (z := z) e b.1 b.2.1
    generalize wdN j [x, y, z] = w at ew ⊢
    have hw : 0 ≤ w ∧ w < 65536 := by omega
    rw [dec_n hw hj (by omega) e, show w / 256 % 8 = x from by omega, show w % 256 / 32 = y from by omega, show (if w % 32 > 15 then w % 32 - 32 else w % 32) = z from by split <;> omega]
    exact ⟨rfl, hw, by omega⟩
  · obtain ⟨x, y, rfl⟩ := l2 (by rw [hl, e]; rfl)
    have b := (fa_b e).mp hf
    have ew := wd_b (y := y) e b.1
    generalize wdN j [x, y] = w at ew ⊢
    have hw : 0 ≤ w ∧ w < 65536 := by omega
    rw [dec_b hw hj (by omega) e, show w / 256 % 8 = x from by omega, show w % 256 = y from by omega]
    exact ⟨rfl, hw, by omega⟩
  · obtain ⟨x, y, rfl⟩ := l2 (by rw [hl, e]; rfl)
    have b := (fa_f e).mp hf
    have ew := wd_f (y := y) e b.1
    generalize wdN j [x, y] = w at ew ⊢
    have hw : 0 ≤ w ∧ w < 65536 := by omega
    rw [dec_f hw hj (by omega) e, show w / 256 % 8 = x from by omega, show (if w % 256 > 127 then w % 256 - 256 else w % 256) = y from by split <;> omega]
    exact ⟨rfl, hw, by omega⟩
  · obtain ⟨x, rfl⟩ := l1 (by rw [hl, e]; rfl)
    have b := (fa_c e).mp hf
    have ew := wd_c (x := x) e
    generalize wdN j [x] = w at ew ⊢
    have hw : 0 ≤ w ∧ w < 65536 := by omega
    rw [dec_c hw hj (by omega) e, if_pos (by omega), show w % 256 = x from by omega]
    exact ⟨rfl, hw, by omega⟩
  · obtain ⟨x, y, rfl⟩ := l2 (by rw [hl, e]; rfl)
    have b := (fa_k e).mp hf
    have ew := wd_k (y := y) e b.1
    generalize wdN j [x, y] = w at ew ⊢
    have hw : 0 ≤ w ∧ w < 65536 := by omega
    rw [dec_k hw hj (by omega) e, if_pos (by omega), show w / 256 % 8 = x from by omega, show w % 256 = y from by omega]
    exact ⟨rfl, hw, by omega⟩
  · obtain rfl : ns = [] := List.length_eq_zero_iff.mp (by rw [hl, e]; rfl)
    have ew := wd_0 e
    generalize wdN j [] = w at ew ⊢
    have hw : 0 ≤ w ∧ w < 65536 := by omega
    rw [dec_0 hw hj (by omega) e, if_pos (by omega)]
    exact ⟨rfl, hw, by omega⟩
def sp_wright (K : PySem.W.Frag) : Sp := fun vs H Q _ => ∃ (w : Int) (R : List (Addr × Ob)) (P : List Pf), vs = [.int w] ∧ Own K H R P ∧ (0 ≤ w ∧ w < 65536) ∧ ∀ H' P', Ps P P' → Own K H' R P' → Q (.bl true) H'
theorem ok_Lword_right (T : Txt w K mg) : FnG P w K mg base 7 T.f_Lword_right T.fd_Lword_right ["_law_word_here"] (sp_wright K) := by
  have G_Ltold := ok_Ltold (P := P) (w := w) (base := base) T
  have G_decoded := ok_decoded (P := P) (w := w) (base := base) T
  have G_is_instruction := ok_is_instruction (P := P) (w := w) (base := base) T
  have G_encoded := ok_encoded (P := P) (w := w) (base := base) T
  refine fnG T.F_Lword_right sc_Lword_right (fun vs H Q E h => ?_) (fun cdv A outer s H vs Q E hr hg h => ?_)
  · obtain ⟨w0, R, P, rfl, hO, hw, k⟩ := h; rfl
  · obtain ⟨w0, R, P, rfl, hO, hw, k⟩ := h
    refine ⟨_, (pss_cons (ps_par (i := 1) (j := 2) rfl sc_Lword_right.nd rfl rfl (by decide) rfl rfl (pa_cons (pe_call G_Ltold (hr.mono (by decide)) rfl T.g_Ltold T.F_Ltold.kp T.b_Ltold .nil pass0 (pa_cons (pv 0) pa_nil)) (pa_cons (pe_call G_decoded (hr.mono (by decide)) rfl T.g_decoded T.F_decoded.kp T.b_decoded .nil pass0 (pa_cons (pv 0) pa_nil)) pa_nil)) (by rfl))
        (pss_cons (ps_if (pt_cmpR op_ne (pe_callB (call_reprA hg (hr.mono (by decide))) (by rfl) T.m_repr (by decide +kernel) (pa_cons (pv 2) pa_nil)) (pe_callB (call_reprA hg (hr.mono (by decide))) (by rfl) T.m_repr (by decide +kernel) (pa_cons (pv 1) pa_nil)) (nomark _))
          (pss_one (ps_ret pe_bl))
          pss_nil)
        (pss_cons (ps_if (pt_cmpR op_isN (pv 2) pe_non (nomark _))
          (pss_one (ps_ret pe_bl))
          pss_nil)
        (pss_one (ps_ret (pe_and (pe_cmpR op_eq (pe_call G_encoded (hr.mono (by decide)) rfl T.g_encoded T.F_encoded.kp T.b_encoded .nil pass0 (pa_cons (pv 2) pa_nil)) (pv 0) (nomark _)) (pe_one (pe_cmpR op_is_bl (pe_call G_is_instruction (hr.mono (by decide)) rfl T.g_is_instruction T.F_is_instruction.kp T.b_is_instruction .nil pass0 (pa_cons (pv 2) pa_nil)) pe_bl (nomark _))))))))), ?_⟩
    clear G_Ltold G_decoded G_is_instruction G_encoded
    clear hr hg
    cases hd : decI w0 with
    | none =>
      walk_at "go"
      · intro _ H1 P1 sp1 hO
        walk_at "go"
        · intro _ H2 P2 sp2 hO
          walk_at "go"
          exact k _ P2 (sp1.trans sp2) hO
        · exact fun j ns h => nomatch hd.symm.trans h
      · exact fun j ns h => nomatch hd.symm.trans h
    | some q =>
      obtain ⟨j, ns⟩ := q
      obtain ⟨hI, ew⟩ := dec_inv hw hd
      have hrep := ok_rep hI
      walk_at "go"
      · exact fun h => nomatch hd.symm.trans h
      · intro j' ns' h a H1 P1 sp1 m1 hO
        obtain ⟨e1, e2⟩ := Prod.mk.inj (Option.some.inj (hd.symm.trans h))
        subst e1; subst e2
        walk_at "go"
        · exact fun h => nomatch hd.symm.trans h
        · intro j' ns' h b H2 P2 sp2 m2 hO
          obtain ⟨e1, e2⟩ := Prod.mk.inj (Option.some.inj (hd.symm.trans h))
          subst e1; subst e2
          replace m1 := sp2 _ m1
          have d1 := dp_ins (hO.psq m1)
          have d2 := dp_ins (hO.psq m2)
          walk_at "go"
          · exact .inr hrep
          walk_at "go"
          · exact .inr hrep
          generalize (insD j ns).shown = S
          walk_at "go"
          rw [show (!decide (V.str S = V.str S)) = false from by simp]
          walk_at "go"
          intro H3 P3 sp3 hO
          replace m2 := sp3 _ m2
          have hk : InsOr K H3 P3 b (some (j, ns)) := ⟨m2, hI.hj, hI.len⟩
          rw [ew]
          walk_at "go"
          rw [if_pos (decide_eq_true rfl)]
          walk_at "go"
          intro H4 P4 sp4 hO
          rw [show ansI (some (j, ns)) = true from fits_ok hI]
          walk_at "go"
          exact k _ P4 (sp1.trans (sp2.trans (sp3.trans sp4))) hO
def sp_tright (K : PySem.W.Frag) : Sp := fun vs H Q _ => ∃ (a : Addr) (j : Nat) (ns : List Int) (R : List (Addr × Ob)) (P : List Pf), vs = [.ref a] ∧ Own K H R P ∧ Pf.sq a (insV j ns) ∈ P ∧ OkI j ns ∧ ∀ H' P', Ps P P' → Own K H' R P' → Q (.bl true) H'
theorem ok_Ltold_right (T : Txt w K mg) : FnG P w K mg base 7 T.f_Ltold_right T.fd_Ltold_right ["_law_told_here"] (sp_tright K) := by
  have G_Lword := ok_Lword (P := P) (w := w) (base := base) T
  have G_decoded := ok_decoded (P := P) (w := w) (base := base) T
  have G_encoded := ok_encoded (P := P) (w := w) (base := base) T
  have G_bits := ok_bits (P := P) (w := w) (base := base) T
  have G_Lnames := ok_Lnames (P := P) (w := w) (base := base) T
  have G_is_instruction := ok_is_instruction (P := P) (w := w) (base := base) T
  refine fnG T.F_Ltold_right sc_Ltold_right (fun vs H Q E h => ?_) (fun cdv A outer s H vs Q E hr hg h => ?_)
  · obtain ⟨a0, j, ns, R, P, rfl, hO, mi, hI, k⟩ := h; rfl
  · obtain ⟨a0, j, ns, R, P, rfl, hO, mi, hI, k⟩ := h
    refine ⟨_, (pss_cons (ps_set (i := 1) sc_Ltold_right.nd rfl (Or.inl rfl) (pe_call G_Lword (hr.mono (by decide)) rfl T.g_Lword T.F_Lword.kp T.b_Lword .nil pass0 (pa_cons (pv 0) pa_nil)))
        (pss_cons (ps_if (PW.pt (pw_or (pt_cmpR op_ne (pe_callKA G_encoded (hr.mono (by decide)) rfl T.g_encoded T.F_encoded.kp T.kb_encoded pass0 (pk_cons (pv 0) pk_nil)) (pv 1) (nomark _)) (pw_or1 (pt_cmpR op_ne (pe_callB (call_reprA hg (hr.mono (by decide))) (by rfl) T.m_repr (by decide +kernel) (pa_cons (pe_callKA G_decoded (hr.mono (by decide)) rfl T.g_decoded T.F_decoded.kp T.kb_decoded pass0 (pk_cons (pv 1) pk_nil)) pa_nil)) (pe_callB (call_reprA hg (hr.mono (by decide))) (by rfl) T.m_repr (by decide +kernel) (pa_cons (pv 0) pa_nil)) (nomark _)))))
          (pss_one (ps_ret pe_bl))
          pss_nil)
        (pss_cons (ps_if (pt_cmpR op_ne (pe_call G_bits (hr.mono (by decide)) rfl T.g_bits T.F_bits.kp T.b_bits .nil pass0 (pa_cons (pv 1) (pa_cons pe_int (pa_cons pe_int pa_nil)))) (pe_op op_add (pe_bm PySem.F.plainAttrs_list PySem.F.slot_list_index PySem.F.type_list_index mt_indexN (pe_call0 G_Lnames (hr.mono (by decide)) rfl T.g_Lnames T.F_Lnames.kp T.b_Lnames .nil pass0) (pa_cons (pe_ix ix_tup (pv 0) pe_int (fun _ _ => rfl)) pa_nil)) pe_int) (nomark _))
          (pss_one (ps_ret pe_bl))
          pss_nil)
        (pss_one (ps_ret (pe_and (pe_cmpR op_is_bl (pe_call G_is_instruction (hr.mono (by decide)) rfl T.g_is_instruction T.F_is_instruction.kp T.b_is_instruction .nil pass0 (pa_cons (pe_callTy call_list_of (by rfl) T.m_list (by decide +kernel) (pa_cons (pv 0) pa_nil)) pa_nil)) pe_bl (nomark _)) (pe_one (pe_cmpR op_is_bl (pe_callKA G_is_instruction (hr.mono (by decide)) rfl T.g_is_instruction T.F_is_instruction.kp T.kb_is_instruction pass0 (pk_cons (pv 0) pk_nil)) pe_bl (nomark _))))))))), ?_⟩
    clear G_Lword G_decoded G_encoded G_bits G_Lnames G_is_instruction
    clear hr hg
    obtain ⟨hd, hw, hb⟩ := dec_ok hI
    have hrep := ok_rep hI
    walk_at "go"
    intro H1 P1 sp1 hO
    replace mi := sp1 _ mi
    walk_at "go"
    intro H2 P2 sp2 hO
    replace mi := sp2 _ mi
    walk_at "go"
    rw [show (!decide (V.int (wdN j ns) = V.int (wdN j ns))) = false from by simp]
    walk_at "go"
    · exact fun h => nomatch hd.symm.trans h
    intro j' ns' h b H3 P3 sp3 m3 hO
    obtain ⟨e1, e2⟩ := Prod.mk.inj (Option.some.inj (hd.symm.trans h))
    subst e1; subst e2
    replace mi := sp3 _ mi
    have d1 := dp_ins (hO.psq mi)
    have d2 := dp_ins (hO.psq m3)
    walk_at "go"
    · exact .inr hrep
    walk_at "go"
    · exact .inr hrep
    generalize (insD j ns).shown = S
    walk_at "go"
    rw [show (!decide (V.str S = V.str S)) = false from by simp]
    have hj := hI.hj
    have e11 : (2 : Int) ^ (11 : Int).toNat = 2048 := by decide
    have at0 : atI (insV j ns) (0 : Int) = some (.str (nm j)) := atI_nat (j := 0) rfl
    walk_at "go"
    intro p H4 hO
    have hor : SqL K H4 a0 (insV j ns) ∨ SqT K H4 a0 (insV j ns) := .inr (hO.psq mi)
    have hlen : (insV j ns).length ≤ 1000 := by rw [insV, List.length_cons, List.length_map, hI.len]; have := ptN_le (fi_lt hj); omega
    walk_at "go"
    refine iteN (fun h => absurd (congrArg V.int (by rw [hb]; omega)) h) (fun _ => ?_)
    walk_at "go"
    any_goals (exact hor)
    refine ⟨(show InsOr K H1 P3 p none from ⟨_, hO.raw (by walk_at "mem")⟩), ?_⟩
    intro H5 P5 sp5 hO
    replace mi := sp5 _ mi
    have hk : InsOr K H5 P5 a0 (some (j, ns)) := ⟨mi, hj, hI.len⟩
    rw [show ansI none = false from rfl]
    walk_at "go"
    intro H6 P6 sp6 hO
    rw [show ansI (some (j, ns)) = true from fits_ok hI]
    walk_at "go"
    exact k _ P6 (sp1.trans (sp2.trans (sp3.trans (sp5.trans sp6)))) (Own.sub hO (by walk_at "sbL") Ps.refl)
theorem okE {j : Nat} (hj : j < 26) {z : Int} (hz : 0 ≤ z ∧ z ≤ 7) : (lsV (fi j) = .non → OkI j (List.replicate (rgN (fi j)).toNat z)) ∧ (∀ lo hi m : Int, lsV (fi j) = .int lo → mtV (fi j) = .int hi → lo ≤ m → m ≤ hi → OkI j (List.replicate (rgN (fi j)).toNat z ++ [m])) := by
  rcases shp (fi_lt hj) with ⟨e1, e2, e3⟩ | ⟨lo0, hi0, e1, e2, _, _, _, e3, e4⟩
  · refine ⟨fun _ => ⟨hj, by rw [List.length_replicate, e2], fun k p n f1 f2 => ?_⟩, fun lo hi m f => by rw [e1] at f; exact nomatch f⟩
    obtain rfl := List.eq_of_mem_replicate (List.mem_of_getElem? f2)
    rw [e3 k p f1]
    exact hz
  · refine ⟨fun f => (by rw [e1] at f; exact (nomatch f)), fun lo hi m f1 f2 h1 h2 => ⟨hj, by rw [List.length_append, List.length_replicate, e3]; rfl, fun k p n g1 g2 => ?_⟩⟩
    rw [e1] at f1
    rw [e2] at f2
    obtain rfl := V.int.inj f1
    obtain rfl := V.int.inj f2
    rcases e4 k p g1 with ⟨c1, c2⟩ | ⟨c1, c2⟩
    · rw [List.getElem?_append_left (by rw [List.length_replicate]; exact c1)] at g2
      obtain rfl := List.eq_of_mem_replicate (List.mem_of_getElem? g2)
      rw [c2]
      exact hz
    · rw [List.getElem?_append_right (by rw [List.length_replicate]; omega), List.length_replicate, c1, Nat.sub_self] at g2
      obtain rfl := Option.some.inj g2
      rw [c2]
      exact ⟨h1, h2⟩
theorem flat_rep (n : Nat) (x : Int) : (List.replicate n [V.int x]).flatten = (List.replicate n x).map V.int := by
  induction n with
  | zero => rfl
  | succ n ih => rw [List.replicate_succ, List.flatten_cons, ih, List.replicate_succ]; rfl
def sp_Lends (K : PySem.W.Frag) : Sp := fun vs H Q _ => ∃ (j : Nat) (R : List (Addr × Ob)) (P : List Pf), vs = [.str (nm j)] ∧ Own K H R P ∧ j < 26 ∧ ∀ (p a b : Addr) (ns ms : List Int) (H' : Hp) (P' : List Pf), Ps P P' → OkI j ns → OkI j ms → Pf.sq a (insV j ns) ∈ P' → Pf.sq b (insV j ms) ∈ P' → Own K H' ((p, .raw (.lst [.ref a, .ref b])) :: R) P' → Q (.ref p) H'
theorem ok_Lends (T : Txt w K mg) : FnOk P w K mg base CX0 3 T.f_Lends T.fd_Lends ["_law_name"] (sp_Lends K) := by
  have G_Lshape := ok_Lshape (P := P) (w := w) (base := base) T
  have G_Lform := ok_Lform (P := P) (w := w) (base := base) T
  refine T.F_Lends.ok sc_Lends (fun vs H Q E h => ?_) (fun cdv A outer s H vs Q E hr h => ?_)
  · obtain ⟨j, R, P, rfl, hO, hj, k⟩ := h; rfl
  · obtain ⟨j, R, P, rfl, hO, hj, k⟩ := h
    refine ⟨_, (pss_cons (ps_asg (pe_call G_Lshape (hr.mono (by decide)) rfl T.g_Lshape T.F_Lshape.kp T.b_Lshape .nil pass0 (pa_cons (pe_call G_Lform (hr.mono (by decide)) rfl T.g_Lform T.F_Lform.kp T.b_Lform .nil pass0 (pa_cons (pv 0) pa_nil)) pa_nil)) (pg_tup rfl (pgs_cons (pg_name (i := 1) sc_Lends.nd rfl (Or.inl rfl)) (pgs_cons (pg_name (i := 2) sc_Lends.nd rfl (Or.inl rfl)) (pgs_cons (pg_name (i := 3) sc_Lends.nd rfl (Or.inl rfl)) pgs_nil)))))
        (pss_cons (ps_par (i := 4) (j := 5) rfl sc_Lends.nd rfl rfl (by decide) rfl rfl (pa_cons (pe_mid (pe_op op_catT (pe_tup (pa_cons (pv 0) pa_nil)) (pe_mid (pe_op op_repTA (pe_tup (pa_cons pe_int pa_nil)) (pv 1))))) (pa_cons (pe_mid (pe_op op_catT (pe_tup (pa_cons (pv 0) pa_nil)) (pe_mid (pe_op op_repTA (pe_tup (pa_cons pe_int pa_nil)) (pv 1))))) pa_nil)) (by rfl))
        (pss_one (ps_ret (pe_ifExp (pt_cmpR op_isN (pv 2) pe_non (nomark _)) (pe_lst (pa_cons (pv 4) (pa_cons (pv 5) pa_nil))) (pe_lst (pa_cons (pe_mid (pe_op op_catT (pv 4) (pe_tup (pa_cons (pv 2) pa_nil)))) (pa_cons (pe_mid (pe_op op_catT (pv 5) (pe_tup (pa_cons (pv 3) pa_nil)))) pa_nil)))))))), ?_⟩
    clear G_Lshape G_Lform
    clear hr
    have hi7 := fi_lt hj
    walk_at "go"
    intro H1 P1 sp1 hO
    walk_at "go"
    intro p0 H2 hO
    have hr0 := rgN_b hi7
    walk_at "go"
    refine keepPs hO fun P3 m3 sp3 hO => ?_
    obtain ⟨lo, hlo⟩ : ∃ lo, lo = List.replicate (rgN (fi j)).toNat (0 : Int) := ⟨_, rfl⟩
    refine Stop.mk ⟨MidT K R P3 (insV j lo), ?_, fun v H6 hM => ?_⟩
    · walk_at "go"
      refine keepPs hO fun P5 m5 sp5 hO => ?_
      refine Stop.mk ⟨MidT K R P5 (lo.map V.int), ?_, fun v H6 hM => ?_⟩
      · walk_at "go"
        · exact List.cons_ne_nil _ _
        replace hO := hO.derive (q := .sq p [V.int 0]) (fun M h => SqT.of (h (Pf.tup p [V.int 0]) List.mem_cons_self))
        refine ⟨hr0.1, by omega, Nat.le_of_ble_eq_true rfl, ?_⟩
        rw [hlo, ← flat_rep]
        exact repEnd hO List.mem_cons_self (Ps.skip (Ps.skip Ps.refl))
      clear hO
      obtain ⟨q6, P6, rfl, sp6, m6, hO⟩ := hM.ex
      clear hM
      have m56 := sp6 _ m5
      have hS1 : SqT K H6 p [V.str (nm j)] := SqT.of (hO.ptup m56)
      have hS2 := hO.psq m6
      replace hO := hO.derive (q := .sq p [V.str (nm j)]) (fun M h => SqT.of (h (Pf.tup p [V.str (nm j)]) m56))
      walk_at "go"
      · exact List.cons_ne_nil _ _
      refine ⟨size_le (by rw [hlo, List.length_map, List.length_replicate]; show 1 + _ ≤ 10000; omega), ?_⟩
      exact catEnd hO List.mem_cons_self (sp5.trans (sp6.trans (Ps.skip Ps.refl)))
    clear hO
    obtain ⟨qlo, Plo, rfl, spPlo, mqlo, hO⟩ := hM.ex
    clear hM
    walk_at "go"
    obtain ⟨hi, hhi⟩ : ∃ hi, hi = List.replicate (rgN (fi j)).toNat (7 : Int) := ⟨_, rfl⟩
    refine Stop.mk ⟨MidT K R Plo (insV j hi), ?_, fun v H6 hM => ?_⟩
    · walk_at "go"
      refine keepPs hO fun P5 m5 sp5 hO => ?_
      refine Stop.mk ⟨MidT K R P5 (hi.map V.int), ?_, fun v H6 hM => ?_⟩
      · walk_at "go"
        · exact List.cons_ne_nil _ _
        replace hO := hO.derive (q := .sq p [V.int 7]) (fun M h => SqT.of (h (Pf.tup p [V.int 7]) List.mem_cons_self))
        refine ⟨hr0.1, by omega, Nat.le_of_ble_eq_true rfl, ?_⟩
        rw [hhi, ← flat_rep]
        exact repEnd hO List.mem_cons_self (Ps.skip (Ps.skip Ps.refl))
      clear hO
      obtain ⟨q6, P6, rfl, sp6, m6, hO⟩ := hM.ex
      clear hM
      have m56 := sp6 _ m5
      have hS1 : SqT K H6 p [V.str (nm j)] := SqT.of (hO.ptup m56)
      have hS2 := hO.psq m6
      replace hO := hO.derive (q := .sq p [V.str (nm j)]) (fun M h => SqT.of (h (Pf.tup p [V.str (nm j)]) m56))
      walk_at "go"
      · exact List.cons_ne_nil _ _
      refine ⟨size_le (by rw [hhi, List.length_map, List.length_replicate]; show 1 + _ ≤ 10000; omega), ?_⟩
      exact catEnd hO List.mem_cons_self (sp5.trans (sp6.trans (Ps.skip Ps.refl)))
    clear hO
    obtain ⟨qhi, Phi, rfl, spPhi, mqhi, hO⟩ := hM.ex
    clear hM
    walk_at "go"
    replace mqlo := spPhi _ mqlo
    have spA : Ps P Phi := sp1.trans (sp3.trans (spPlo.trans spPhi))
    rcases shp hi7 with ⟨e1, e2, e3⟩ | ⟨lw, hg2, e1, e2, b1, b2, b3, e3, e4⟩
    · rw [e1]
      walk_at "go"
      exact k _ qlo qhi _ _ _ Phi spA (by rw [hlo]; exact (okE hj (by decide)).1 e1) (by rw [hhi]; exact (okE hj (by decide)).1 e1) mqlo mqhi hO
    · rw [e1, e2]
      walk_at "go"
      refine Stop.mk ⟨MidT K R Phi (insV j (lo ++ [lw])), ?_, fun v H7 hM => ?_⟩
      · walk_at "go"
        · exact hO.psq (List.mem_cons_of_mem _ mqlo)
        walk_at "go"
        · exact List.cons_ne_nil _ _
        refine ⟨size_le (by rw [hlo, insV, List.length_cons, List.length_map, List.length_replicate]; show _ + 1 + 1 ≤ 10000; omega), ?_⟩
        rw [show insV j (lo ++ [lw]) = insV j lo ++ [V.int lw] from by rw [insV, insV, List.map_append]; rfl]
        exact catEnd hO (List.mem_cons_of_mem _ mqlo) (Ps.skip Ps.refl)
      clear hO
      obtain ⟨ql2, Pql2, rfl, spql2, mql2, hO⟩ := hM.ex
      clear hM
      replace mqhi := spql2 _ mqhi
      walk_at "go"
      refine Stop.mk ⟨MidT K R Pql2 (insV j (hi ++ [hg2])), ?_, fun v H7 hM => ?_⟩
      · walk_at "go"
        · exact hO.psq (List.mem_cons_of_mem _ mqhi)
        walk_at "go"
        · exact List.cons_ne_nil _ _
        refine ⟨size_le (by rw [hhi, insV, List.length_cons, List.length_map, List.length_replicate]; show _ + 1 + 1 ≤ 10000; omega), ?_⟩
        rw [show insV j (hi ++ [hg2]) = insV j hi ++ [V.int hg2] from by rw [insV, insV, List.map_append]; rfl]
        exact catEnd hO (List.mem_cons_of_mem _ mqhi) (Ps.skip Ps.refl)
      clear hO
      obtain ⟨qh2, Pqh2, rfl, spqh2, mqh2, hO⟩ := hM.ex
      clear hM
      replace mql2 := spqh2 _ mql2
      walk_at "go"
      exact k _ ql2 qh2 _ _ _ Pqh2 (spA.trans (spql2.trans spqh2)) (by rw [hlo]; exact (okE hj (by decide)).2 lw hg2 lw e1 e2 (Int.le_refl _) b2) (by rw [hhi]; exact (okE hj (by decide)).2 lw hg2 hg2 e1 e2 b2 (Int.le_refl _)) mql2 mqh2 hO
end
end K15

set_option Elab.async false
set_option linter.all false
set_option maxRecDepth 100000
set_option maxHeartbeats 8000000

namespace K15
open PySem PySem.Spec PyProof.Rows L2 Hx 
local macro_rules | `(tactic| walk_at "sm") => `(tactic| repeat' (first | assumption | apply Hx.Same.upd | exact L2.Same.refl _ | apply same_trans'))
local macro_rules | `(tactic| walk_at "hp") => `(tactic| repeat' (first | assumption | exact upd_same | apply old_upd | apply same_at))
local macro_rules | `(tactic| walk_at "rd") => `(tactic| repeat' (first | rfl | apply Exists.intro | apply And.intro | refine iteT ?_ | refine iteF ?_ | exact upd_same | exact SqL.of (by assumption) | exact SqL.of upd_same | exact SqT.of upd_same | exact SqT.of (by assumption) | ((with_reducible show (_ : Int) < _); omega) | ((with_reducible show (_ : Int) ≤ _); omega) | (show (_ : Prop); assumption) | exact Or.inl ⟨_, by assumption, rfl⟩ | exact Or.inl ⟨rfl, _, SqL.of (by assumption)⟩ | exact Or.inl ⟨rfl, _, SqL.of upd_same⟩ | apply old_upd | apply Hx.SqL.new | apply tyl_new | apply Pot.new | exact same_at (by assumption) (by assumption) | exact Or.inl (SqL.of (by assumption)) | exact Or.inl (by assumption) | exact Or.inl (SqL.of upd_same) | exact size_le (Nat.le_of_ble_eq_true rfl) | exact Nat.le_of_ble_eq_true rfl | exact True.intro | exact Or.inl rfl | exact Or.inr rfl | (show (_ : Prop); omega) | (show (_ : Prop); dsimp only; omega) | exact mulw64 (by omega) (by omega) | exact mulw64 (by (try dsimp only); omega) (by (try dsimp only); omega)))
local macro_rules | `(tactic| walk_at "mem") => `(tactic| ((repeat (first | exact List.Mem.head _ | apply List.Mem.tail | fail)); done))
local macro_rules | `(tactic| walk_at "setat") => `(tactic| ((repeat (first | (with_reducible exact At.head) | (with_reducible apply At.tail) | (with_reducible apply At.app) | fail)); done))
set_option hygiene false in
local macro_rules | `(tactic| walk_at "dv") => `(tactic| ((repeat' (first | exact Dv.nil | exact Dv.of (by walk_at "mem") | exact Dv.ints _ | exact Dv1.of (by walk_at "mem") | exact Dv1.int _ | exact Dv1.non | exact Dv1.bl _ | exact Dv1.str _ | (with_reducible apply Dv.cons) | refine Dv1.tup (by walk_at "mem") ?_ | refine Dv1.lst (by walk_at "mem") ?_ | (with_reducible apply Dv.app) | fail)); done))
local macro_rules | `(tactic| walk_at "ft") => `(tactic| (first | (with_reducible exact Ft.refl) | ((with_reducible apply Ft.toL); focus walk_at "dv") | ((with_reducible apply Ft.toS); focus assumption) | (with_reducible apply Ft.lst) | (with_reducible apply Ft.Le) | (with_reducible apply Ft.dK) | (with_reducible apply Ft.De) | (with_reducible apply Ft.ins) | (with_reducible apply Ft.toL) | (with_reducible apply Ft.toS) | (with_reducible apply Ft.toD) | fail))
local macro_rules | `(tactic| walk_at "sbL") => `(tactic| repeat' (first | (with_reducible exact Sb.refl _) | exact Sb.nil | (with_reducible apply Sb.cons) | (with_reducible apply Sb.app) | (with_reducible exact Pk.one) | (with_reducible exact Pk.here) | (with_reducible exact Pk.all) | (with_reducible apply Pk.skip1) | (with_reducible apply Pk.skipB) | (with_reducible apply Sb.skip) | (with_reducible apply Sb.skipB) | ((with_reducible show Ft _ _ _ _); walk_at "ft") | ((with_reducible show (_ : List _) = _); (first | rfl | (simp [List.map_set, List.map_append]; done) | fail)) | fail))
local macro_rules | `(tactic| walk_at "sb") => `(tactic| ((walk_at "sbL"); done))
local macro_rules | `(tactic| walk_at "ps") => `(tactic| ((repeat' (first | (with_reducible exact Ps.refl) | exact Ps.nil | (with_reducible apply Ps.cons) | exact List.Mem.head _ | apply List.Mem.tail | (with_reducible apply Ps.skip) | fail)); done))
set_option hygiene false in
local macro_rules | `(tactic| walk_at "at") => `(tactic| first | assumption | exact Own.raw hO (by walk_at "mem") | exact Own.ptup hO (by walk_at "mem") | exact Own.plst hO (by walk_at "mem") | fail)
set_option hygiene false in
local macro_rules | `(tactic| walk_at "st") => `(tactic| (rw [upd_mkO hO]; generalize e : updX _ _ _ = H1; (first | ((apply Own.cset hO e); (focus walk_at "setat"); (try clear hO e); intro hO) | ((apply Own.cnewT hO e); (focus assumption); (try clear hO e); intro hO) | ((apply Own.cnew hO e); (focus assumption); (try clear hO e); intro hO) | fail)))
set_option hygiene false in
local macro_rules | `(tactic| walk_at "mk") => `(tactic| (intro p1 p2 f1 f2 f3; rw [upd_mkO hO]; generalize e : upd (updX _ _ _) _ _ = H1; apply Own.cmake hO f1 f2 f3 e; (try clear hO e); intro hO))
set_option hygiene false in
local macro_rules | `(tactic| walk_at "own") => `(tactic| (first | ((apply Own.sub hO); (focus walk_at "sb"); (focus walk_at "ps")) | ((apply Own.sub hF); (focus walk_at "sb"); (focus walk_at "ps")) | fail))
set_option hygiene false in
local macro_rules | `(tactic| walk_at "fin") => `(tactic| (refine Own.sub hO ?_ (by walk_at "ps"); walk_at "sbL"))
set_option hygiene false in
local macro_rules | `(tactic| walk_at "g1") => `(tactic| (first
 | ((with_reducible show (_ : Option HO) = _); walk_at "at")
 | ((with_reducible show (_ : Int) < _); omega) | ((with_reducible show (_ : Int) ≤ _); omega)
 | ((with_reducible show (_ : Nat) < _); (first | assumption | exact Nat.le_of_ble_eq_true rfl | exact size_lt (Nat.le_of_ble_eq_true rfl) | omega | (simp; done) | (simp; omega) | fail))
 | ((with_reducible show (_ : Nat) ≤ _); (first | assumption | exact Nat.le_of_ble_eq_true rfl | exact size_le (Nat.le_of_ble_eq_true rfl) | omega | (simp; done) | (simp; omega) | fail))
 | ((with_reducible show (_ : Pf) ∈ _); (first | assumption | (focus walk_at "mem") | ((repeat (with_reducible apply List.mem_cons_of_mem)); assumption) | fail))
 | ((with_reducible show Own _ _ _ _); (first | walk_at "own" | (walk_at "st"; walk_at "own") | fail))
 | ((with_reducible show SqL _ _ _ _); (first | assumption | exact SqL.of (by walk_at "at") | fail))
 | ((with_reducible show SqT _ _ _ _); (first | assumption | exact hO.psq (by walk_at "mem") | exact hO.psq (by assumption) | exact SqT.of (by walk_at "at") | fail))
   | ((with_reducible show V.ref _ = V.ref _); (first | rfl | fail))
 | ((with_reducible show DGet _ _ _ _); (first | exact DGet.ki (by walk_at "at") (by assumption) | exact DGet.kiF (by walk_at "at") (by assumption) | fail))
 | ((with_reducible show DPut _ _ _ _ _); exact DPut.ki (by walk_at "at") (by assumption))
 | ((with_reducible show Rd _ _ _); (first | exact Or.inl (by walk_at "at") | exact Or.inr ⟨_, by walk_at "at"⟩ | fail))
 | ((with_reducible show (∃ _ : List (Key × V), _) ∨ _); refine Or.inl ⟨_, by walk_at "at", ?_⟩)
 | ((with_reducible show Dv _ _ _ _); focus walk_at "dv") | ((with_reducible show Dv1 _ _ _ _); focus walk_at "dv")
 | ((with_reducible show IsD _ _); exact Or.inl ⟨_, Or.inl (by walk_at "at")⟩)
 | ((with_reducible show V.int _ = kV _); exact kV_int)
 | ((with_reducible show Option.isSome _ = true); (first | exact isSome_ofV (by assumption) | assumption | fail))
 | ((with_reducible show SqL _ _ _ _ ∨ SqT _ _ _ _); (first | exact Or.inl (by assumption) | exact Or.inr (by assumption) | exact Or.inl (SqL.of (by walk_at "at")) | exact Or.inr (SqT.of (by walk_at "at")) | fail))
 | ((with_reducible show Dp _ _ _ _); (first | assumption | exact hO.dpL (by walk_at "mem") | exact .lst (SqL.of (by walk_at "at")) (hO.all (by walk_at "dv")) | exact hO.one (by walk_at "dv") | fail))
 | ((with_reducible show TruV _ _ _ _); (first | exact Or.inl ⟨_, SqL.of (by walk_at "at"), rfl⟩ | exact Or.inr (Or.inr ⟨_, by walk_at "at", rfl⟩) | exact Or.inr (Or.inl ⟨_, SqT.of (by walk_at "at"), rfl⟩) | fail))
 | ((with_reducible show RgOk _ _); exact RgOk.of_le (by omega) (by omega) (by omega) (by omega))
 | rfl | (with_reducible assumption) | apply And.intro | apply Exists.intro | refine iteT ?_ | refine iteF ?_
 | (walk_at "st"; (try walk_at "fl"))
 | ((with_reducible show ∀ _ : Addr, _ = none → _); (fail_if_success (with_reducible show ∀ _ : Addr, _ = none → ∃ _ : Nat → Nat → Hp → Prop, _)); intro p fp; walk_at "st")
 | (refine Or.inl ⟨SqL.of (by walk_at "at"), ?_⟩) | (refine Or.inr ⟨SqT.of (by walk_at "at"), ?_⟩) | exact Or.inl ⟨_, by walk_at "at", rfl⟩ | exact Or.inl ⟨rfl, _, SqL.of (by walk_at "at")⟩ | exact tyl_of (by walk_at "at") | exact Or.inl (SqL.of (by walk_at "at")) | exact Or.inr (SqT.of (by walk_at "at")) | exact Or.inl (by walk_at "at") | exact size_le (Nat.le_of_ble_eq_true rfl) | exact Nat.le_of_ble_eq_true rfl | exact True.intro | exact Or.inl rfl | exact Or.inr rfl | (show (_ : Prop); assumption) | (show (_ : Prop); omega) | (show (_ : Prop); dsimp only; omega) | exact mulw64 (by omega) (by omega) | exact mulw64 (by (try dsimp only); omega) (by (try dsimp only); omega) | fail))
local macro_rules | `(tactic| walk_at "go") => `(tactic| repeat walk_at "g1")

section
variable {P : Program} {w : World} {K : PySem.W.Frag} {mg : Str → Option Value} {base : Heap}
def sp_law (K : PySem.W.Frag) : Sp := fun vs H Q _ => ∃ (a : Addr) (ns : List Int), vs = [.ref a] ∧ SqL K H a (ns.map V.int) ∧ ns.length ≤ 63 ∧ ∀ H', Q (.bl true) H'
theorem dp_strs {K : PySem.W.Frag} {H : Hp} : ∀ xs : List Str, DpAll K H (xs.map V.str) (xs.map PyData.str)
  | [] => .nil
  | x :: r => .cons (.str x) (dp_strs r)
theorem ok_law (T : Txt w K mg) : FnG P w K mg base 8 T.f_law T.fd_law ["_law_script"] (sp_law K) := by
  have G_Lpot := ok_Lpot (P := P) (w := w) (base := base) T
  have G_operations := ok_operations (P := P) (w := w) (base := base) T
  have G_Lnames := ok_Lnames (P := P) (w := w) (base := base) T
  have G_Lword_right := ok_Lword_right (P := P) (w := w) (base := base) T
  have G_Ldraw := ok_Ldraw (P := P) (w := w) (base := base) T
  have G_Ldrawn := ok_Ldrawn (P := P) (w := w) (base := base) T
  have G_Ltold_right := ok_Ltold_right (P := P) (w := w) (base := base) T
  have G_Lword := ok_Lword (P := P) (w := w) (base := base) T
  have G_Lends := ok_Lends (P := P) (w := w) (base := base) T
  have G_Lpick := ok_Lpick (P := P) (w := w) (base := base) T
  have G_decoded := ok_decoded (P := P) (w := w) (base := base) T
  refine fnG T.F_law sc_law (fun vs H Q E h => ?_) (fun cdv A outer s H vs Q E hr hg h => ?_)
  · obtain ⟨a, ns, rfl, hS, hl, k⟩ := h; rfl
  · obtain ⟨a, ns, rfl, hS, hl, k⟩ := h
    refine ⟨_, (pss_cons (ps_set (i := 1) sc_law.nd rfl (Or.inl rfl) (pe_call G_Lpot (hr.mono (by decide)) rfl T.g_Lpot T.F_Lpot.kp T.b_Lpot .nil pass0 (pa_cons (pv 0) (pa_cons pe_int pa_nil))))
        (pss_cons (ps_set (i := 2) sc_law.nd rfl (Or.inl rfl) (pe_call0 G_operations (hr.mono (by decide)) rfl T.g_operations T.F_operations.kp T.b_operations .nil pass0))
        (pss_cons (ps_expr (pe_bm PySem.F.plainAttrs_list PySem.F.slot_list_append PySem.F.type_list_append mt_append (pv 2) (pa_cons pe_non pa_nil)))
        (pss_cons (ps_if (pt_cmpR (op_neD hr.units) (pe_call0 G_operations (hr.mono (by decide)) rfl T.g_operations T.F_operations.kp T.b_operations .nil pass0) (pe_call0 G_Lnames (hr.mono (by decide)) rfl T.g_Lnames T.F_Lnames.kp T.b_Lnames .nil pass0) (nomark _))
          (pss_one (ps_ret pe_bl))
          pss_nil)
        (pss_cons (ps_forS PassesOwn.never rfl (pi_range1 rfl T.m_range (pa_cons pe_int pa_nil)) (pg_name (i := 3) sc_law.nd rfl (Or.inl rfl))
          (pss_one (ps_if (pt_not (pt_val (pe_callG (E := E0) hg G_Lword_right (hr.mono (by decide)) rfl T.g_Lword_right T.F_Lword_right.kp T.b_Lword_right (pa_cons (pe_call G_Ldraw (hr.mono (by decide)) rfl T.g_Ldraw T.F_Ldraw.kp T.b_Ldraw .nil pass0 (pa_cons (pv 1) (pa_cons pe_int pa_nil))) pa_nil))))
            (pss_one (ps_ret pe_bl))
            pss_nil)))
        (pss_cons (ps_forS PassesOwn.never rfl (pi_range1 rfl T.m_range (pa_cons pe_int pa_nil)) (pg_name (i := 3) sc_law.nd rfl (Or.inl rfl))
          (pss_cons (ps_set (i := 4) sc_law.nd rfl (Or.inl rfl) (pe_call G_Ldrawn (hr.mono (by decide)) rfl T.g_Ldrawn T.F_Ldrawn.kp T.b_Ldrawn .nil pass0 (pa_cons (pv 1) pa_nil)))
          (pss_cons (ps_if (pt_not (pt_val (pe_callG (E := E0) hg G_Ltold_right (hr.mono (by decide)) rfl T.g_Ltold_right T.F_Ltold_right.kp T.b_Ltold_right (pa_cons (pv 4) pa_nil))))
            (pss_one (ps_ret pe_bl))
            pss_nil)
          (pss_one (ps_forS PassesOwn.never rfl (pi_list (pe_lst (pa_cons pe_int (pa_cons pe_int (pa_cons pe_int (pa_cons pe_int (pa_cons pe_int pa_nil))))))) (pg_name (i := 5) sc_law.nd rfl (Or.inl rfl))
            (pss_one (ps_if (pt_not (pt_val (pe_callG (E := E0) hg G_Lword_right (hr.mono (by decide)) rfl T.g_Lword_right T.F_Lword_right.kp T.b_Lword_right (pa_cons (pe_op op_mod (pe_op op_add (pe_call G_Lword (hr.mono (by decide)) rfl T.g_Lword T.F_Lword.kp T.b_Lword .nil pass0 (pa_cons (pv 4) pa_nil)) (pe_op op_mulW (pv 5) (pe_op op_add pe_int (pe_call G_Ldraw (hr.mono (by decide)) rfl T.g_Ldraw T.F_Ldraw.kp T.b_Ldraw .nil pass0 (pa_cons (pv 1) (pa_cons pe_int pa_nil)))))) pe_int) pa_nil))))
              (pss_one (ps_ret pe_bl))
              pss_nil)))))))
        (pss_cons (ps_forS PassesOwn.never rfl (pi_range1 rfl T.m_range (pa_cons pe_int pa_nil)) (pg_name (i := 3) sc_law.nd rfl (Or.inl rfl))
          (pss_one (ps_forS PassesOwn.never rfl (pi_list (pe_call G_Lends (hr.mono (by decide)) rfl T.g_Lends T.F_Lends.kp T.b_Lends .nil pass0 (pa_cons (pe_call G_Lpick (hr.mono (by decide)) rfl T.g_Lpick T.F_Lpick.kp T.b_Lpick .nil pass0 (pa_cons (pv 1) (pa_cons (pe_call0 G_Lnames (hr.mono (by decide)) rfl T.g_Lnames T.F_Lnames.kp T.b_Lnames .nil pass0) pa_nil))) pa_nil))) (pg_name (i := 4) sc_law.nd rfl (Or.inl rfl))
            (pss_one (ps_if (pt_not (pt_val (pe_callG (E := E0) hg G_Ltold_right (hr.mono (by decide)) rfl T.g_Ltold_right T.F_Ltold_right.kp T.b_Ltold_right (pa_cons (pv 4) pa_nil))))
              (pss_one (ps_ret pe_bl))
              pss_nil)))))
        (pss_one (ps_ret (pe_and (pe_callG (E := E0) hg G_Lword_right (hr.mono (by decide)) rfl T.g_Lword_right T.F_Lword_right.kp T.b_Lword_right (pa_cons pe_int pa_nil)) (pe_and (pe_callG (E := E0) hg G_Lword_right (hr.mono (by decide)) rfl T.g_Lword_right T.F_Lword_right.kp T.b_Lword_right (pa_cons pe_int pa_nil)) (pe_one (pe_cmpR (op_eqD hr.units) (pe_call G_decoded (hr.mono (by decide)) rfl T.g_decoded T.F_decoded.kp T.b_decoded .nil pass0 (pa_cons (pe_op op_mulW pe_int pe_int) pa_nil)) (pe_tup (pa_cons pe_str pa_nil)) (nomark _)))))))))))))), ?_⟩
    clear G_Lpot G_operations G_Lnames G_Lword_right G_Ldraw G_Ldrawn G_Ltold_right G_Lword G_Lends G_Lpick G_decoded
    clear hr hg
    walk_at "rd"
    intro pa H1 hO
    walk_at "go"
    intro p1 H2 hO
    walk_at "go"
    intro p2 H3 hO
    walk_at "go"
    intro p3 H4 hO
    have d2 : Dp K H4 (V.ref p2) (.list (nmL.map PyData.str)) := .lst (SqL.of (hO.raw (by walk_at "mem"))) (dp_strs nmL)
    have d3 : Dp K H4 (V.ref p3) (.list (nmL.map PyData.str)) := .lst (SqL.of (hO.raw (by walk_at "mem"))) (dp_strs nmL)
    have hsh : SeqAt.shaped (PyData.list (nmL.map PyData.str)) = true := by decide +kernel
    have heq : (PyData.list (nmL.map PyData.str)).eqv (PyData.list (nmL.map PyData.str)) = true := by decide +kernel
    walk_at "go"
    refine ⟨for_range (n := 30) (fun i σ H' => Stop (∃ (t2 t3 t4 t5 : Option V) (P' : List Pf), σ = [some (.ref a), some (.ref pa), t2, t3, t4, t5] ∧ Own K H' (pt pa ++ []) P')) ⟨⟨_, _, _, _, [], rfl, Own.sub hO (by walk_at "sbL") Ps.refl⟩⟩ (fun i σ H' hi h => ?_) (fun σ H' h => ?_)⟩
    · clear hO
      obtain ⟨t2, t3, t4, t5, P', rfl, hO⟩ := h.h
      clear h
      walk_at "go"
      intro d H5 d0 d1 hO
      walk_at "go"
      intro H3 P3 sp3 hO
      walk_at "go"
      exact ⟨⟨_, _, _, _, P3, rfl, hO⟩⟩
    clear hO
    obtain ⟨t2, t3, t4, t5, P', rfl, hO⟩ := h.h
    clear h
    walk_at "go"
    refine ⟨for_range (n := 15) (fun i σ H' => Stop (∃ (t2 t3 t4 t5 : Option V) (P' : List Pf), σ = [some (.ref a), some (.ref pa), t2, t3, t4, t5] ∧ Own K H' (pt pa ++ []) P')) ⟨⟨_, _, _, _, P', rfl, hO⟩⟩ (fun i σ H' hi h => ?_) (fun σ H' h => ?_)⟩
    · clear hO
      obtain ⟨t2, t3, t4, t5, P', rfl, hO⟩ := h.h
      clear h
      walk_at "go"
      intro ia j ms H2 P2 hI mi sp2 hO
      walk_at "go"
      intro H3 P3 sp3 hO
      replace mi := sp3 _ mi
      walk_at "go"
      refine ⟨for_list (xs := [V.int 1, V.int 8, V.int 32, V.int 256, V.int 2048]) (fun i σ H' => Stop (∃ (t3 t5 : Option V) (P1 : List Pf), σ = [some (.ref a), some (.ref pa), t2, t3, some (.ref ia), t5] ∧ Pf.sq ia (insV j ms) ∈ P1 ∧ Own K H' (pt pa ++ ((p, .raw (.lst [V.int 1, V.int 8, V.int 32, V.int 256, V.int 2048])) :: [])) P1)) ⟨⟨_, _, P3, rfl, mi, Own.sub hO (by walk_at "sbL") Ps.refl⟩⟩ (fun i σ H' hi h => ?_) (fun i v σ H' hv h => ?_) (fun σ H' h => ?_)⟩
      · obtain ⟨u3, u5, P1, rfl, mi, hO⟩ := h.h
        exact SqL.of (hO.raw (by walk_at "mem"))
      · clear hO mi
        obtain ⟨u3, u5, P1, rfl, mi, hO⟩ := h.h
        clear h
        have hm := List.mem_of_getElem? hv
        simp only [List.mem_cons, List.not_mem_nil, or_false] at hm
        clear hv
        rcases hm with rfl | rfl | rfl | rfl | rfl
        all_goals (
          walk_at "go"
          intro H5 P5 sp5 hO
          replace mi := sp5 _ mi
          walk_at "go"
          intro d H6 d0 d1 hO
          walk_at "go"
          intro H7 P7 sp7 hO
          replace mi := sp7 _ mi
          walk_at "go"
          exact ⟨⟨_, _, P7, rfl, mi, hO⟩⟩)
      · clear hO mi
        obtain ⟨u3, u5, P1, rfl, mi, hO⟩ := h.h
        exact ⟨⟨_, _, _, _, P1, rfl, Own.sub hO (by walk_at "sbL") Ps.refl⟩⟩
    clear hO
    obtain ⟨t2, t3, t4, t5, P', rfl, hO⟩ := h.h
    clear h
    walk_at "go"
    refine ⟨for_range (n := 4) (fun i σ H' => Stop (∃ (t2 t3 t4 t5 : Option V) (P' : List Pf), σ = [some (.ref a), some (.ref pa), t2, t3, t4, t5] ∧ Own K H' (pt pa ++ []) P')) ⟨⟨_, _, _, _, P', rfl, hO⟩⟩ (fun i σ H' hi h => ?_) (fun σ H' h => ?_)⟩
    · clear hO
      obtain ⟨t2, t3, t4, t5, P', rfl, hO⟩ := h.h
      clear h
      walk_at "go"
      intro pn H5 hO
      walk_at "go"
      intro iv v H6 hv hO
      obtain ⟨j, hj, rfl⟩ := nm_at hv
      clear hv
      walk_at "go"
      intro pe qa qb ns1 ns2 H7 P7 sp7 hI1 hI2 ma mb hO
      walk_at "go"
      refine ⟨for_list (xs := [V.ref qa, V.ref qb]) (fun i σ H' => Stop (∃ (t3 t4 : Option V) (P1 : List Pf), σ = [some (.ref a), some (.ref pa), t2, t3, t4, t5] ∧ Pf.sq qa (insV j ns1) ∈ P1 ∧ Pf.sq qb (insV j ns2) ∈ P1 ∧ Own K H' (pt pa ++ ((pe, .raw (.lst [V.ref qa, V.ref qb])) :: [])) P1)) ⟨⟨_, _, P7, rfl, ma, mb, Own.sub hO (by walk_at "sbL") Ps.refl⟩⟩ (fun i σ H' hi h => ?_) (fun i v σ H' hv h => ?_) (fun σ H' h => ?_)⟩
      · obtain ⟨u3, u4, P1, rfl, ma, mb, hO⟩ := h.h
        exact SqL.of (hO.raw (by walk_at "mem"))
      · clear hO ma mb
        obtain ⟨u3, u4, P1, rfl, ma, mb, hO⟩ := h.h
        clear h
        have hm := List.mem_of_getElem? hv
        simp only [List.mem_cons, List.not_mem_nil, or_false] at hm
        clear hv
        rcases hm with rfl | rfl
        all_goals (
          walk_at "go"
          intro H8 P8 sp8 hO
          replace ma := sp8 _ ma
          replace mb := sp8 _ mb
          walk_at "go"
          exact ⟨⟨_, _, P8, rfl, ma, mb, hO⟩⟩)
      · clear hO ma mb
        obtain ⟨u3, u4, P1, rfl, ma, mb, hO⟩ := h.h
        exact ⟨⟨_, _, _, _, P1, rfl, Own.sub hO (by walk_at "sbL") Ps.refl⟩⟩
    clear hO
    obtain ⟨t2, t3, t4, t5, P', rfl, hO⟩ := h.h
    clear h
    have hdn : decI (26 * 2048) = some (25, []) := by decide +kernel
    walk_at "go"
    intro H5 P5 sp5 hO
    walk_at "go"
    intro H6 P6 sp6 hO
    walk_at "go"
    · exact fun h => nomatch hdn.symm.trans h
    intro j' ns' h b H7 P7 sp7 m7 hO
    obtain ⟨e1, e2⟩ := Prod.mk.inj (Option.some.inj (hdn.symm.trans h))
    subst e1; subst e2
    have hsh2 : SeqAt.shaped (insD 25 []) = true := by decide +kernel
    have hsh3 : SeqAt.shaped (PyData.tuple [.str (Str.ofString "nop")]) = true := by decide +kernel
    have heq2 : (insD 25 []).eqv (PyData.tuple [.str (Str.ofString "nop")]) = true := by decide +kernel
    walk_at "go"
    · exact dp_ins (hO.psq (List.mem_cons_of_mem _ m7))
    refine ⟨.tup (SqT.of (hO.ptup List.mem_cons_self)) (.cons (.str _) .nil), ?_⟩
    exact ⟨hsh2, hsh3, (by rw [heq2]; exact k _)⟩
end
end K15

set_option Elab.async false
set_option linter.all false
set_option maxRecDepth 100000
set_option maxHeartbeats 8000000

namespace K15
open PySem PySem.Spec PyProof.Rows L2 Hx
theorem all_mk {l : PySem.W.OpenLaw} {w : World} {K : PySem.W.Frag} {h : Heap} {mg : Str → Option Value} {fa : Addr} (X : K.In h) (G : h.Ns mainGlobals mg) (hfa : mg "law" = some (.ref fa))
    {f_is_integer : Addr} {od_is_integer an_is_integer : Option Addr} {sl_is_integer : Array (Option Value)} {oc_is_integer kV_is_integer dc_is_integer pm_is_integer cd_is_integer ct_is_integer : Value}
    {f_is_between : Addr} {od_is_between an_is_between : Option Addr} {sl_is_between : Array (Option Value)} {oc_is_between kV_is_between dc_is_between pm_is_between cd_is_between ct_is_between : Value}
    {f_is_word : Addr} {od_is_word an_is_word : Option Addr} {sl_is_word : Array (Option Value)} {oc_is_word kV_is_word dc_is_word pm_is_word cd_is_word ct_is_word : Value}
    {f_need_word : Addr} {od_need_word an_need_word : Option Addr} {sl_need_word : Array (Option Value)} {oc_need_word kV_need_word dc_need_word pm_need_word cd_need_word ct_need_word : Value}
    {f_need_bits : Addr} {od_need_bits an_need_bits : Option Addr} {sl_need_bits : Array (Option Value)} {oc_need_bits kV_need_bits dc_need_bits pm_need_bits cd_need_bits ct_need_bits : Value}
    {f_bits : Addr} {od_bits an_bits : Option Addr} {sl_bits : Array (Option Value)} {oc_bits kV_bits dc_bits pm_bits cd_bits ct_bits : Value}
    {f_operations : Addr} {od_operations an_operations : Option Addr} {sl_operations : Array (Option Value)} {oc_operations kV_operations dc_operations pm_operations cd_operations ct_operations : Value}
    {f_is_operation : Addr} {od_is_operation an_is_operation : Option Addr} {sl_is_operation : Array (Option Value)} {oc_is_operation kV_is_operation dc_is_operation pm_is_operation cd_is_operation ct_is_operation : Value}
    {f_is_instruction : Addr} {od_is_instruction an_is_instruction : Option Addr} {sl_is_instruction : Array (Option Value)} {oc_is_instruction kV_is_instruction dc_is_instruction pm_is_instruction cd_is_instruction ct_is_instruction : Value}
    {f_need_instruction : Addr} {od_need_instruction an_need_instruction : Option Addr} {sl_need_instruction : Array (Option Value)} {oc_need_instruction kV_need_instruction dc_need_instruction pm_need_instruction cd_need_instruction ct_need_instruction : Value}
    {f_encoded : Addr} {od_encoded an_encoded : Option Addr} {sl_encoded : Array (Option Value)} {oc_encoded kV_encoded dc_encoded pm_encoded cd_encoded ct_encoded : Value}
    {f_decoded : Addr} {od_decoded an_decoded : Option Addr} {sl_decoded : Array (Option Value)} {oc_decoded kV_decoded dc_decoded pm_decoded cd_decoded ct_decoded : Value}
    {f__word_of : Addr} {od__word_of an__word_of : Option Addr} {sl__word_of : Array (Option Value)} {oc__word_of kV__word_of dc__word_of pm__word_of cd__word_of ct__word_of : Value}
    {f__form_of : Addr} {od__form_of an__form_of : Option Addr} {sl__form_of : Array (Option Value)} {oc__form_of kV__form_of dc__form_of pm__form_of cd__form_of ct__form_of : Value}
    {f__fits : Addr} {od__fits an__fits : Option Addr} {sl__fits : Array (Option Value)} {oc__fits kV__fits dc__fits pm__fits cd__fits ct__fits : Value}
    {f__stands : Addr} {od__stands an__stands : Option Addr} {sl__stands : Array (Option Value)} {oc__stands kV__stands dc__stands pm__stands cd__stands ct__stands : Value}
    {f__number_at : Addr} {od__number_at an__number_at : Option Addr} {sl__number_at : Array (Option Value)} {oc__number_at kV__number_at dc__number_at pm__number_at cd__number_at ct__number_at : Value}
    {f_Lpot : Addr} {od_Lpot an_Lpot : Option Addr} {sl_Lpot : Array (Option Value)} {oc_Lpot kV_Lpot dc_Lpot pm_Lpot cd_Lpot ct_Lpot : Value}
    {f_Ldraw : Addr} {od_Ldraw an_Ldraw : Option Addr} {sl_Ldraw : Array (Option Value)} {oc_Ldraw kV_Ldraw dc_Ldraw pm_Ldraw cd_Ldraw ct_Ldraw : Value}
    {f_Lpick : Addr} {od_Lpick an_Lpick : Option Addr} {sl_Lpick : Array (Option Value)} {oc_Lpick kV_Lpick dc_Lpick pm_Lpick cd_Lpick ct_Lpick : Value}
    {f_Lnames : Addr} {od_Lnames an_Lnames : Option Addr} {sl_Lnames : Array (Option Value)} {oc_Lnames kV_Lnames dc_Lnames pm_Lnames cd_Lnames ct_Lnames : Value}
    {f_Lform : Addr} {od_Lform an_Lform : Option Addr} {sl_Lform : Array (Option Value)} {oc_Lform kV_Lform dc_Lform pm_Lform cd_Lform ct_Lform : Value}
    {f_Lshape : Addr} {od_Lshape an_Lshape : Option Addr} {sl_Lshape : Array (Option Value)} {oc_Lshape kV_Lshape dc_Lshape pm_Lshape cd_Lshape ct_Lshape : Value}
    {f_Lword : Addr} {od_Lword an_Lword : Option Addr} {sl_Lword : Array (Option Value)} {oc_Lword kV_Lword dc_Lword pm_Lword cd_Lword ct_Lword : Value}
    {f_Ltold : Addr} {od_Ltold an_Ltold : Option Addr} {sl_Ltold : Array (Option Value)} {oc_Ltold kV_Ltold dc_Ltold pm_Ltold cd_Ltold ct_Ltold : Value}
    {f_Ldrawn : Addr} {od_Ldrawn an_Ldrawn : Option Addr} {sl_Ldrawn : Array (Option Value)} {oc_Ldrawn kV_Ldrawn dc_Ldrawn pm_Ldrawn cd_Ldrawn ct_Ldrawn : Value}
    {f_Lword_right : Addr} {od_Lword_right an_Lword_right : Option Addr} {sl_Lword_right : Array (Option Value)} {oc_Lword_right kV_Lword_right dc_Lword_right pm_Lword_right cd_Lword_right ct_Lword_right : Value}
    {f_Ltold_right : Addr} {od_Ltold_right an_Ltold_right : Option Addr} {sl_Ltold_right : Array (Option Value)} {oc_Ltold_right kV_Ltold_right dc_Ltold_right pm_Ltold_right cd_Ltold_right ct_Ltold_right : Value}
    {f_Lends : Addr} {od_Lends an_Lends : Option Addr} {sl_Lends : Array (Option Value)} {oc_Lends kV_Lends dc_Lends pm_Lends cd_Lends ct_Lends : Value}
    {f_law : Addr} {od_law an_law : Option Addr} {sl_law : Array (Option Value)} {oc_law kV_law dc_law pm_law cd_law ct_law : Value}
    {t__WORD_BITS : Tok}
    {t_WORDS : Tok}
    {t__NUMBER_BIT : Tok}
    {D_op : Addr} {es_op : Array DictEntry} {nn_op : Nat}
    {D_fo : Addr} {es_fo : Array DictEntry} {nn_fo : Nat}
    {D_pa : Addr} {es_pa : Array DictEntry} {nn_pa : Nat}
    (a_is_integer : PySem.W.nsIn K mainGlobals "is_integer" = some (some (.ref f_is_integer)))
    (l_is_integer : K.lookup f_is_integer = some ⟨oc_is_integer, od_is_integer, .func (PySem.W.fnOf "is_integer" "is_integer" (defArgs s_is_integer) (defBody s_is_integer) (defScope s_is_integer) .none kV_is_integer dc_is_integer pm_is_integer an_is_integer cd_is_integer ct_is_integer), sl_is_integer⟩)
    (c_is_integer : PySem.W.codeIn K cd_is_integer "is_integer" = true) (k_is_integer : PySem.W.keepIn K (.ref f_is_integer) = true)
    (a_is_between : PySem.W.nsIn K mainGlobals "is_between" = some (some (.ref f_is_between)))
    (l_is_between : K.lookup f_is_between = some ⟨oc_is_between, od_is_between, .func (PySem.W.fnOf "is_between" "is_between" (defArgs s_is_between) (defBody s_is_between) (defScope s_is_between) .none kV_is_between dc_is_between pm_is_between an_is_between cd_is_between ct_is_between), sl_is_between⟩)
    (c_is_between : PySem.W.codeIn K cd_is_between "is_between" = true) (k_is_between : PySem.W.keepIn K (.ref f_is_between) = true)
    (a_is_word : PySem.W.nsIn K mainGlobals "is_word" = some (some (.ref f_is_word)))
    (l_is_word : K.lookup f_is_word = some ⟨oc_is_word, od_is_word, .func (PySem.W.fnOf "is_word" "is_word" (defArgs s_is_word) (defBody s_is_word) (defScope s_is_word) .none kV_is_word dc_is_word pm_is_word an_is_word cd_is_word ct_is_word), sl_is_word⟩)
    (c_is_word : PySem.W.codeIn K cd_is_word "is_word" = true) (k_is_word : PySem.W.keepIn K (.ref f_is_word) = true)
    (a_need_word : PySem.W.nsIn K mainGlobals "need_word" = some (some (.ref f_need_word)))
    (l_need_word : K.lookup f_need_word = some ⟨oc_need_word, od_need_word, .func (PySem.W.fnOf "need_word" "need_word" (defArgs s_need_word) (defBody s_need_word) (defScope s_need_word) .none kV_need_word dc_need_word pm_need_word an_need_word cd_need_word ct_need_word), sl_need_word⟩)
    (c_need_word : PySem.W.codeIn K cd_need_word "need_word" = true) (k_need_word : PySem.W.keepIn K (.ref f_need_word) = true)
    (a_need_bits : PySem.W.nsIn K mainGlobals "need_bits" = some (some (.ref f_need_bits)))
    (l_need_bits : K.lookup f_need_bits = some ⟨oc_need_bits, od_need_bits, .func (PySem.W.fnOf "need_bits" "need_bits" (defArgs s_need_bits) (defBody s_need_bits) (defScope s_need_bits) .none kV_need_bits dc_need_bits pm_need_bits an_need_bits cd_need_bits ct_need_bits), sl_need_bits⟩)
    (c_need_bits : PySem.W.codeIn K cd_need_bits "need_bits" = true) (k_need_bits : PySem.W.keepIn K (.ref f_need_bits) = true)
    (a_bits : PySem.W.nsIn K mainGlobals "bits" = some (some (.ref f_bits)))
    (l_bits : K.lookup f_bits = some ⟨oc_bits, od_bits, .func (PySem.W.fnOf "bits" "bits" (defArgs s_bits) (defBody s_bits) (defScope s_bits) .none kV_bits dc_bits pm_bits an_bits cd_bits ct_bits), sl_bits⟩)
    (c_bits : PySem.W.codeIn K cd_bits "bits" = true) (k_bits : PySem.W.keepIn K (.ref f_bits) = true)
    (a_operations : PySem.W.nsIn K mainGlobals "operations" = some (some (.ref f_operations)))
    (l_operations : K.lookup f_operations = some ⟨oc_operations, od_operations, .func (PySem.W.fnOf "operations" "operations" (defArgs s_operations) (defBody s_operations) (defScope s_operations) .none kV_operations dc_operations pm_operations an_operations cd_operations ct_operations), sl_operations⟩)
    (c_operations : PySem.W.codeIn K cd_operations "operations" = true) (k_operations : PySem.W.keepIn K (.ref f_operations) = true)
    (a_is_operation : PySem.W.nsIn K mainGlobals "is_operation" = some (some (.ref f_is_operation)))
    (l_is_operation : K.lookup f_is_operation = some ⟨oc_is_operation, od_is_operation, .func (PySem.W.fnOf "is_operation" "is_operation" (defArgs s_is_operation) (defBody s_is_operation) (defScope s_is_operation) .none kV_is_operation dc_is_operation pm_is_operation an_is_operation cd_is_operation ct_is_operation), sl_is_operation⟩)
    (c_is_operation : PySem.W.codeIn K cd_is_operation "is_operation" = true) (k_is_operation : PySem.W.keepIn K (.ref f_is_operation) = true)
    (a_is_instruction : PySem.W.nsIn K mainGlobals "is_instruction" = some (some (.ref f_is_instruction)))
    (l_is_instruction : K.lookup f_is_instruction = some ⟨oc_is_instruction, od_is_instruction, .func (PySem.W.fnOf "is_instruction" "is_instruction" (defArgs s_is_instruction) (defBody s_is_instruction) (defScope s_is_instruction) .none kV_is_instruction dc_is_instruction pm_is_instruction an_is_instruction cd_is_instruction ct_is_instruction), sl_is_instruction⟩)
    (c_is_instruction : PySem.W.codeIn K cd_is_instruction "is_instruction" = true) (k_is_instruction : PySem.W.keepIn K (.ref f_is_instruction) = true)
    (a_need_instruction : PySem.W.nsIn K mainGlobals "need_instruction" = some (some (.ref f_need_instruction)))
    (l_need_instruction : K.lookup f_need_instruction = some ⟨oc_need_instruction, od_need_instruction, .func (PySem.W.fnOf "need_instruction" "need_instruction" (defArgs s_need_instruction) (defBody s_need_instruction) (defScope s_need_instruction) .none kV_need_instruction dc_need_instruction pm_need_instruction an_need_instruction cd_need_instruction ct_need_instruction), sl_need_instruction⟩)
    (c_need_instruction : PySem.W.codeIn K cd_need_instruction "need_instruction" = true) (k_need_instruction : PySem.W.keepIn K (.ref f_need_instruction) = true)
    (a_encoded : PySem.W.nsIn K mainGlobals "encoded" = some (some (.ref f_encoded)))
    (l_encoded : K.lookup f_encoded = some ⟨oc_encoded, od_encoded, .func (PySem.W.fnOf "encoded" "encoded" (defArgs s_encoded) (defBody s_encoded) (defScope s_encoded) .none kV_encoded dc_encoded pm_encoded an_encoded cd_encoded ct_encoded), sl_encoded⟩)
    (c_encoded : PySem.W.codeIn K cd_encoded "encoded" = true) (k_encoded : PySem.W.keepIn K (.ref f_encoded) = true)
    (a_decoded : PySem.W.nsIn K mainGlobals "decoded" = some (some (.ref f_decoded)))
    (l_decoded : K.lookup f_decoded = some ⟨oc_decoded, od_decoded, .func (PySem.W.fnOf "decoded" "decoded" (defArgs s_decoded) (defBody s_decoded) (defScope s_decoded) .none kV_decoded dc_decoded pm_decoded an_decoded cd_decoded ct_decoded), sl_decoded⟩)
    (c_decoded : PySem.W.codeIn K cd_decoded "decoded" = true) (k_decoded : PySem.W.keepIn K (.ref f_decoded) = true)
    (a__word_of : PySem.W.nsIn K mainGlobals "_word_of" = some (some (.ref f__word_of)))
    (l__word_of : K.lookup f__word_of = some ⟨oc__word_of, od__word_of, .func (PySem.W.fnOf "_word_of" "_word_of" (defArgs s__word_of) (defBody s__word_of) (defScope s__word_of) .none kV__word_of dc__word_of pm__word_of an__word_of cd__word_of ct__word_of), sl__word_of⟩)
    (c__word_of : PySem.W.codeIn K cd__word_of "_word_of" = true) (k__word_of : PySem.W.keepIn K (.ref f__word_of) = true)
    (a__form_of : PySem.W.nsIn K mainGlobals "_form_of" = some (some (.ref f__form_of)))
    (l__form_of : K.lookup f__form_of = some ⟨oc__form_of, od__form_of, .func (PySem.W.fnOf "_form_of" "_form_of" (defArgs s__form_of) (defBody s__form_of) (defScope s__form_of) .none kV__form_of dc__form_of pm__form_of an__form_of cd__form_of ct__form_of), sl__form_of⟩)
    (c__form_of : PySem.W.codeIn K cd__form_of "_form_of" = true) (k__form_of : PySem.W.keepIn K (.ref f__form_of) = true)
    (a__fits : PySem.W.nsIn K mainGlobals "_fits" = some (some (.ref f__fits)))
    (l__fits : K.lookup f__fits = some ⟨oc__fits, od__fits, .func (PySem.W.fnOf "_fits" "_fits" (defArgs s__fits) (defBody s__fits) (defScope s__fits) .none kV__fits dc__fits pm__fits an__fits cd__fits ct__fits), sl__fits⟩)
    (c__fits : PySem.W.codeIn K cd__fits "_fits" = true) (k__fits : PySem.W.keepIn K (.ref f__fits) = true)
    (a__stands : PySem.W.nsIn K mainGlobals "_stands" = some (some (.ref f__stands)))
    (l__stands : K.lookup f__stands = some ⟨oc__stands, od__stands, .func (PySem.W.fnOf "_stands" "_stands" (defArgs s__stands) (defBody s__stands) (defScope s__stands) .none kV__stands dc__stands pm__stands an__stands cd__stands ct__stands), sl__stands⟩)
    (c__stands : PySem.W.codeIn K cd__stands "_stands" = true) (k__stands : PySem.W.keepIn K (.ref f__stands) = true)
    (a__number_at : PySem.W.nsIn K mainGlobals "_number_at" = some (some (.ref f__number_at)))
    (l__number_at : K.lookup f__number_at = some ⟨oc__number_at, od__number_at, .func (PySem.W.fnOf "_number_at" "_number_at" (defArgs s__number_at) (defBody s__number_at) (defScope s__number_at) .none kV__number_at dc__number_at pm__number_at an__number_at cd__number_at ct__number_at), sl__number_at⟩)
    (c__number_at : PySem.W.codeIn K cd__number_at "_number_at" = true) (k__number_at : PySem.W.keepIn K (.ref f__number_at) = true)
    (a_Lpot : PySem.W.nsIn K mainGlobals "_law_pot" = some (some (.ref f_Lpot)))
    (l_Lpot : K.lookup f_Lpot = some ⟨oc_Lpot, od_Lpot, .func (PySem.W.fnOf "_law_pot" "_law_pot" (defArgs s_Lpot) (defBody s_Lpot) (defScope s_Lpot) .none kV_Lpot dc_Lpot pm_Lpot an_Lpot cd_Lpot ct_Lpot), sl_Lpot⟩)
    (c_Lpot : PySem.W.codeIn K cd_Lpot "_law_pot" = true) (k_Lpot : PySem.W.keepIn K (.ref f_Lpot) = true)
    (a_Ldraw : PySem.W.nsIn K mainGlobals "_law_draw" = some (some (.ref f_Ldraw)))
    (l_Ldraw : K.lookup f_Ldraw = some ⟨oc_Ldraw, od_Ldraw, .func (PySem.W.fnOf "_law_draw" "_law_draw" (defArgs s_Ldraw) (defBody s_Ldraw) (defScope s_Ldraw) .none kV_Ldraw dc_Ldraw pm_Ldraw an_Ldraw cd_Ldraw ct_Ldraw), sl_Ldraw⟩)
    (c_Ldraw : PySem.W.codeIn K cd_Ldraw "_law_draw" = true) (k_Ldraw : PySem.W.keepIn K (.ref f_Ldraw) = true)
    (a_Lpick : PySem.W.nsIn K mainGlobals "_law_pick" = some (some (.ref f_Lpick)))
    (l_Lpick : K.lookup f_Lpick = some ⟨oc_Lpick, od_Lpick, .func (PySem.W.fnOf "_law_pick" "_law_pick" (defArgs s_Lpick) (defBody s_Lpick) (defScope s_Lpick) .none kV_Lpick dc_Lpick pm_Lpick an_Lpick cd_Lpick ct_Lpick), sl_Lpick⟩)
    (c_Lpick : PySem.W.codeIn K cd_Lpick "_law_pick" = true) (k_Lpick : PySem.W.keepIn K (.ref f_Lpick) = true)
    (a_Lnames : PySem.W.nsIn K mainGlobals "_law_names" = some (some (.ref f_Lnames)))
    (l_Lnames : K.lookup f_Lnames = some ⟨oc_Lnames, od_Lnames, .func (PySem.W.fnOf "_law_names" "_law_names" (defArgs s_Lnames) (defBody s_Lnames) (defScope s_Lnames) .none kV_Lnames dc_Lnames pm_Lnames an_Lnames cd_Lnames ct_Lnames), sl_Lnames⟩)
    (c_Lnames : PySem.W.codeIn K cd_Lnames "_law_names" = true) (k_Lnames : PySem.W.keepIn K (.ref f_Lnames) = true)
    (a_Lform : PySem.W.nsIn K mainGlobals "_law_form" = some (some (.ref f_Lform)))
    (l_Lform : K.lookup f_Lform = some ⟨oc_Lform, od_Lform, .func (PySem.W.fnOf "_law_form" "_law_form" (defArgs s_Lform) (defBody s_Lform) (defScope s_Lform) .none kV_Lform dc_Lform pm_Lform an_Lform cd_Lform ct_Lform), sl_Lform⟩)
    (c_Lform : PySem.W.codeIn K cd_Lform "_law_form" = true) (k_Lform : PySem.W.keepIn K (.ref f_Lform) = true)
    (a_Lshape : PySem.W.nsIn K mainGlobals "_law_shape" = some (some (.ref f_Lshape)))
    (l_Lshape : K.lookup f_Lshape = some ⟨oc_Lshape, od_Lshape, .func (PySem.W.fnOf "_law_shape" "_law_shape" (defArgs s_Lshape) (defBody s_Lshape) (defScope s_Lshape) .none kV_Lshape dc_Lshape pm_Lshape an_Lshape cd_Lshape ct_Lshape), sl_Lshape⟩)
    (c_Lshape : PySem.W.codeIn K cd_Lshape "_law_shape" = true) (k_Lshape : PySem.W.keepIn K (.ref f_Lshape) = true)
    (a_Lword : PySem.W.nsIn K mainGlobals "_law_word" = some (some (.ref f_Lword)))
    (l_Lword : K.lookup f_Lword = some ⟨oc_Lword, od_Lword, .func (PySem.W.fnOf "_law_word" "_law_word" (defArgs s_Lword) (defBody s_Lword) (defScope s_Lword) .none kV_Lword dc_Lword pm_Lword an_Lword cd_Lword ct_Lword), sl_Lword⟩)
    (c_Lword : PySem.W.codeIn K cd_Lword "_law_word" = true) (k_Lword : PySem.W.keepIn K (.ref f_Lword) = true)
    (a_Ltold : PySem.W.nsIn K mainGlobals "_law_told" = some (some (.ref f_Ltold)))
    (l_Ltold : K.lookup f_Ltold = some ⟨oc_Ltold, od_Ltold, .func (PySem.W.fnOf "_law_told" "_law_told" (defArgs s_Ltold) (defBody s_Ltold) (defScope s_Ltold) .none kV_Ltold dc_Ltold pm_Ltold an_Ltold cd_Ltold ct_Ltold), sl_Ltold⟩)
    (c_Ltold : PySem.W.codeIn K cd_Ltold "_law_told" = true) (k_Ltold : PySem.W.keepIn K (.ref f_Ltold) = true)
    (a_Ldrawn : PySem.W.nsIn K mainGlobals "_law_drawn" = some (some (.ref f_Ldrawn)))
    (l_Ldrawn : K.lookup f_Ldrawn = some ⟨oc_Ldrawn, od_Ldrawn, .func (PySem.W.fnOf "_law_drawn" "_law_drawn" (defArgs s_Ldrawn) (defBody s_Ldrawn) (defScope s_Ldrawn) .none kV_Ldrawn dc_Ldrawn pm_Ldrawn an_Ldrawn cd_Ldrawn ct_Ldrawn), sl_Ldrawn⟩)
    (c_Ldrawn : PySem.W.codeIn K cd_Ldrawn "_law_drawn" = true) (k_Ldrawn : PySem.W.keepIn K (.ref f_Ldrawn) = true)
    (a_Lword_right : PySem.W.nsIn K mainGlobals "_law_word_right" = some (some (.ref f_Lword_right)))
    (l_Lword_right : K.lookup f_Lword_right = some ⟨oc_Lword_right, od_Lword_right, .func (PySem.W.fnOf "_law_word_right" "_law_word_right" (defArgs s_Lword_right) (defBody s_Lword_right) (defScope s_Lword_right) .none kV_Lword_right dc_Lword_right pm_Lword_right an_Lword_right cd_Lword_right ct_Lword_right), sl_Lword_right⟩)
    (c_Lword_right : PySem.W.codeIn K cd_Lword_right "_law_word_right" = true) (k_Lword_right : PySem.W.keepIn K (.ref f_Lword_right) = true)
    (a_Ltold_right : PySem.W.nsIn K mainGlobals "_law_told_right" = some (some (.ref f_Ltold_right)))
    (l_Ltold_right : K.lookup f_Ltold_right = some ⟨oc_Ltold_right, od_Ltold_right, .func (PySem.W.fnOf "_law_told_right" "_law_told_right" (defArgs s_Ltold_right) (defBody s_Ltold_right) (defScope s_Ltold_right) .none kV_Ltold_right dc_Ltold_right pm_Ltold_right an_Ltold_right cd_Ltold_right ct_Ltold_right), sl_Ltold_right⟩)
    (c_Ltold_right : PySem.W.codeIn K cd_Ltold_right "_law_told_right" = true) (k_Ltold_right : PySem.W.keepIn K (.ref f_Ltold_right) = true)
    (a_Lends : PySem.W.nsIn K mainGlobals "_law_ends" = some (some (.ref f_Lends)))
    (l_Lends : K.lookup f_Lends = some ⟨oc_Lends, od_Lends, .func (PySem.W.fnOf "_law_ends" "_law_ends" (defArgs s_Lends) (defBody s_Lends) (defScope s_Lends) .none kV_Lends dc_Lends pm_Lends an_Lends cd_Lends ct_Lends), sl_Lends⟩)
    (c_Lends : PySem.W.codeIn K cd_Lends "_law_ends" = true) (k_Lends : PySem.W.keepIn K (.ref f_Lends) = true)
    (a_law : PySem.W.nsIn K mainGlobals "law" = some (some (.ref f_law)))
    (l_law : K.lookup f_law = some ⟨oc_law, od_law, .func (PySem.W.fnOf "law" "law" (defArgs s_law) (defBody s_law) (defScope s_law) .none kV_law dc_law pm_law an_law cd_law ct_law), sl_law⟩)
    (c_law : PySem.W.codeIn K cd_law "law" = true) (k_law : PySem.W.keepIn K (.ref f_law) = true)
    (z_abs : PySem.W.nsIn K mainGlobals "abs" = some none)
    (z_all : PySem.W.nsIn K mainGlobals "all" = some none)
    (z_bool : PySem.W.nsIn K mainGlobals "bool" = some none)
    (z_divmod : PySem.W.nsIn K mainGlobals "divmod" = some none)
    (z_int : PySem.W.nsIn K mainGlobals "int" = some none)
    (z_isinstance : PySem.W.nsIn K mainGlobals "isinstance" = some none)
    (z_len : PySem.W.nsIn K mainGlobals "len" = some none)
    (z_list : PySem.W.nsIn K mainGlobals "list" = some none)
    (z_max : PySem.W.nsIn K mainGlobals "max" = some none)
    (z_range : PySem.W.nsIn K mainGlobals "range" = some none)
    (z_repr : PySem.W.nsIn K mainGlobals "repr" = some none)
    (z_str : PySem.W.nsIn K mainGlobals "str" = some none)
    (z_sum : PySem.W.nsIn K mainGlobals "sum" = some none)
    (z_tuple : PySem.W.nsIn K mainGlobals "tuple" = some none)
    (z_zip : PySem.W.nsIn K mainGlobals "zip" = some none)
    (x__WORD_BITS : PySem.W.nsIn K mainGlobals "_WORD_BITS" = some (some (.int 16 t__WORD_BITS)))
    (x_WORDS : PySem.W.nsIn K mainGlobals "WORDS" = some (some (.int 65536 t_WORDS)))
    (x__NUMBER_BIT : PySem.W.nsIn K mainGlobals "_NUMBER_BIT" = some (some (.int 11 t__NUMBER_BIT)))
    (a_op : PySem.W.nsIn K mainGlobals "_OPERATIONS" = some (some (.ref D_op))) (l_op : K.lookup D_op = some ⟨.type "dict", none, .dict es_op nn_op, #[]⟩) (y_op : PySem.W.KeysLit w.params es_op.toList) (w_op : (D_op == sysModules) = false) (o_op : tbOk K D_op opT = true) (n_op : tbNo K D_op [] = true) (e_op : tbLit es_op.toList nmL = true)
    (a_fo : PySem.W.nsIn K mainGlobals "_FORMS" = some (some (.ref D_fo))) (l_fo : K.lookup D_fo = some ⟨.type "dict", none, .dict es_fo nn_fo, #[]⟩) (y_fo : PySem.W.KeysLit w.params es_fo.toList) (w_fo : (D_fo == sysModules) = false) (o_fo : tbOk K D_fo foT = true) (n_fo : tbNo K D_fo [] = true)
    (a_pa : PySem.W.nsIn K mainGlobals "_PARTS" = some (some (.ref D_pa))) (l_pa : K.lookup D_pa = some ⟨.type "dict", none, .dict es_pa nn_pa, #[]⟩) (y_pa : PySem.W.KeysLit w.params es_pa.toList) (w_pa : (D_pa == sysModules) = false) (o_pa : tbOk K D_pa paT = true) (n_pa : tbNo K D_pa [] = true)
    : ∃ fd : FuncData, (∀ (s : Shared) (v : Value), BindsTo s fd ⟨[v], []⟩ [("_law_script", v)]) ∧ ∀ base : Heap, K.In base → base.Ns mainGlobals mg → FnG l.prog w K mg base 8 fa fd ["_law_script"] (sp_law K) := by
  have e := hfa.symm.trans (PySem.W.mg_of X G a_law)
  cases e
  let T : Txt w K mg := {
    f_is_integer := _, fd_is_integer := _, F_is_integer := fun_mk (st := s_is_integer) l_is_integer c_is_integer k_is_integer,
    g_is_integer := PySem.W.mg_of X G a_is_integer,
    b_is_integer := (fun_mk (st := s_is_integer) l_is_integer c_is_integer k_is_integer).binds (ps := ["value"]) fun _ _ _ _ _ _ us hl => match us, hl with | [_], _ => rfl,
    f_is_between := _, fd_is_between := _, F_is_between := fun_mk (st := s_is_between) l_is_between c_is_between k_is_between,
    g_is_between := PySem.W.mg_of X G a_is_between,
    b_is_between := (fun_mk (st := s_is_between) l_is_between c_is_between k_is_between).binds (ps := ["value", "least", "most"]) fun _ _ _ _ _ _ us hl => match us, hl with | [_, _, _], _ => rfl,
    f_is_word := _, fd_is_word := _, F_is_word := fun_mk (st := s_is_word) l_is_word c_is_word k_is_word,
    g_is_word := PySem.W.mg_of X G a_is_word,
    b_is_word := (fun_mk (st := s_is_word) l_is_word c_is_word k_is_word).binds (ps := ["value"]) fun _ _ _ _ _ _ us hl => match us, hl with | [_], _ => rfl,
    f_need_word := _, fd_need_word := _, F_need_word := fun_mk (st := s_need_word) l_need_word c_need_word k_need_word,
    g_need_word := PySem.W.mg_of X G a_need_word,
    b_need_word := (fun_mk (st := s_need_word) l_need_word c_need_word k_need_word).binds (ps := ["value"]) fun _ _ _ _ _ _ us hl => match us, hl with | [_], _ => rfl,
    f_need_bits := _, fd_need_bits := _, F_need_bits := fun_mk (st := s_need_bits) l_need_bits c_need_bits k_need_bits,
    g_need_bits := PySem.W.mg_of X G a_need_bits,
    b_need_bits := (fun_mk (st := s_need_bits) l_need_bits c_need_bits k_need_bits).binds (ps := ["word", "low", "many"]) fun _ _ _ _ _ _ us hl => match us, hl with | [_, _, _], _ => rfl,
    f_bits := _, fd_bits := _, F_bits := fun_mk (st := s_bits) l_bits c_bits k_bits,
    g_bits := PySem.W.mg_of X G a_bits,
    b_bits := (fun_mk (st := s_bits) l_bits c_bits k_bits).binds (ps := ["word", "low", "many"]) fun _ _ _ _ _ _ us hl => match us, hl with | [_, _, _], _ => rfl,
    f_operations := _, fd_operations := _, F_operations := fun_mk (st := s_operations) l_operations c_operations k_operations,
    g_operations := PySem.W.mg_of X G a_operations,
    b_operations := (fun_mk (st := s_operations) l_operations c_operations k_operations).binds (ps := []) fun _ _ _ _ _ _ us hl => match us, hl with | [], _ => rfl,
    f_is_operation := _, fd_is_operation := _, F_is_operation := fun_mk (st := s_is_operation) l_is_operation c_is_operation k_is_operation,
    g_is_operation := PySem.W.mg_of X G a_is_operation,
    b_is_operation := (fun_mk (st := s_is_operation) l_is_operation c_is_operation k_is_operation).binds (ps := ["value"]) fun _ _ _ _ _ _ us hl => match us, hl with | [_], _ => rfl,
    f_is_instruction := _, fd_is_instruction := _, F_is_instruction := fun_mk (st := s_is_instruction) l_is_instruction c_is_instruction k_is_instruction,
    g_is_instruction := PySem.W.mg_of X G a_is_instruction,
    b_is_instruction := (fun_mk (st := s_is_instruction) l_is_instruction c_is_instruction k_is_instruction).binds (ps := ["value"]) fun _ _ _ _ _ _ us hl => match us, hl with | [_], _ => rfl,
    kb_is_instruction := kw_binds (fun_mk (st := s_is_instruction) l_is_instruction c_is_instruction k_is_instruction) (by decide) fun _ _ _ _ _ _ us hl => match us, hl with | [_], _ => rfl,
    f_need_instruction := _, fd_need_instruction := _, F_need_instruction := fun_mk (st := s_need_instruction) l_need_instruction c_need_instruction k_need_instruction,
    g_need_instruction := PySem.W.mg_of X G a_need_instruction,
    b_need_instruction := (fun_mk (st := s_need_instruction) l_need_instruction c_need_instruction k_need_instruction).binds (ps := ["value"]) fun _ _ _ _ _ _ us hl => match us, hl with | [_], _ => rfl,
    f_encoded := _, fd_encoded := _, F_encoded := fun_mk (st := s_encoded) l_encoded c_encoded k_encoded,
    g_encoded := PySem.W.mg_of X G a_encoded,
    b_encoded := (fun_mk (st := s_encoded) l_encoded c_encoded k_encoded).binds (ps := ["instruction"]) fun _ _ _ _ _ _ us hl => match us, hl with | [_], _ => rfl,
    kb_encoded := kw_binds (fun_mk (st := s_encoded) l_encoded c_encoded k_encoded) (by decide) fun _ _ _ _ _ _ us hl => match us, hl with | [_], _ => rfl,
    f_decoded := _, fd_decoded := _, F_decoded := fun_mk (st := s_decoded) l_decoded c_decoded k_decoded,
    g_decoded := PySem.W.mg_of X G a_decoded,
    b_decoded := (fun_mk (st := s_decoded) l_decoded c_decoded k_decoded).binds (ps := ["word"]) fun _ _ _ _ _ _ us hl => match us, hl with | [_], _ => rfl,
    kb_decoded := kw_binds (fun_mk (st := s_decoded) l_decoded c_decoded k_decoded) (by decide) fun _ _ _ _ _ _ us hl => match us, hl with | [_], _ => rfl,
    f__word_of := _, fd__word_of := _, F__word_of := fun_mk (st := s__word_of) l__word_of c__word_of k__word_of,
    g__word_of := PySem.W.mg_of X G a__word_of,
    b__word_of := (fun_mk (st := s__word_of) l__word_of c__word_of k__word_of).binds (ps := ["instruction"]) fun _ _ _ _ _ _ us hl => match us, hl with | [_], _ => rfl,
    f__form_of := _, fd__form_of := _, F__form_of := fun_mk (st := s__form_of) l__form_of c__form_of k__form_of,
    g__form_of := PySem.W.mg_of X G a__form_of,
    b__form_of := (fun_mk (st := s__form_of) l__form_of c__form_of k__form_of).binds (ps := ["name"]) fun _ _ _ _ _ _ us hl => match us, hl with | [_], _ => rfl,
    f__fits := _, fd__fits := _, F__fits := fun_mk (st := s__fits) l__fits c__fits k__fits,
    g__fits := PySem.W.mg_of X G a__fits,
    b__fits := (fun_mk (st := s__fits) l__fits c__fits k__fits).binds (ps := ["number", "part"]) fun _ _ _ _ _ _ us hl => match us, hl with | [_, _], _ => rfl,
    f__stands := _, fd__stands := _, F__stands := fun_mk (st := s__stands) l__stands c__stands k__stands,
    g__stands := PySem.W.mg_of X G a__stands,
    b__stands := (fun_mk (st := s__stands) l__stands c__stands k__stands).binds (ps := ["number", "part"]) fun _ _ _ _ _ _ us hl => match us, hl with | [_, _], _ => rfl,
    f__number_at := _, fd__number_at := _, F__number_at := fun_mk (st := s__number_at) l__number_at c__number_at k__number_at,
    g__number_at := PySem.W.mg_of X G a__number_at,
    b__number_at := (fun_mk (st := s__number_at) l__number_at c__number_at k__number_at).binds (ps := ["word", "part"]) fun _ _ _ _ _ _ us hl => match us, hl with | [_, _], _ => rfl,
    f_Lpot := _, fd_Lpot := _, F_Lpot := fun_mk (st := s_Lpot) l_Lpot c_Lpot k_Lpot,
    g_Lpot := PySem.W.mg_of X G a_Lpot,
    b_Lpot := (fun_mk (st := s_Lpot) l_Lpot c_Lpot k_Lpot).binds (ps := ["_law_script", "_law_k"]) fun _ _ _ _ _ _ us hl => match us, hl with | [_, _], _ => rfl,
    f_Ldraw := _, fd_Ldraw := _, F_Ldraw := fun_mk (st := s_Ldraw) l_Ldraw c_Ldraw k_Ldraw,
    g_Ldraw := PySem.W.mg_of X G a_Ldraw,
    b_Ldraw := (fun_mk (st := s_Ldraw) l_Ldraw c_Ldraw k_Ldraw).binds (ps := ["_law_pot_here", "_law_size"]) fun _ _ _ _ _ _ us hl => match us, hl with | [_, _], _ => rfl,
    f_Lpick := _, fd_Lpick := _, F_Lpick := fun_mk (st := s_Lpick) l_Lpick c_Lpick k_Lpick,
    g_Lpick := PySem.W.mg_of X G a_Lpick,
    b_Lpick := (fun_mk (st := s_Lpick) l_Lpick c_Lpick k_Lpick).binds (ps := ["_law_pot_here", "_law_some"]) fun _ _ _ _ _ _ us hl => match us, hl with | [_, _], _ => rfl,
    f_Lnames := _, fd_Lnames := _, F_Lnames := fun_mk (st := s_Lnames) l_Lnames c_Lnames k_Lnames,
    g_Lnames := PySem.W.mg_of X G a_Lnames,
    b_Lnames := (fun_mk (st := s_Lnames) l_Lnames c_Lnames k_Lnames).binds (ps := []) fun _ _ _ _ _ _ us hl => match us, hl with | [], _ => rfl,
    f_Lform := _, fd_Lform := _, F_Lform := fun_mk (st := s_Lform) l_Lform c_Lform k_Lform,
    g_Lform := PySem.W.mg_of X G a_Lform,
    b_Lform := (fun_mk (st := s_Lform) l_Lform c_Lform k_Lform).binds (ps := ["_law_name"]) fun _ _ _ _ _ _ us hl => match us, hl with | [_], _ => rfl,
    f_Lshape := _, fd_Lshape := _, F_Lshape := fun_mk (st := s_Lshape) l_Lshape c_Lshape k_Lshape,
    g_Lshape := PySem.W.mg_of X G a_Lshape,
    b_Lshape := (fun_mk (st := s_Lshape) l_Lshape c_Lshape k_Lshape).binds (ps := ["_law_form_here"]) fun _ _ _ _ _ _ us hl => match us, hl with | [_], _ => rfl,
    f_Lword := _, fd_Lword := _, F_Lword := fun_mk (st := s_Lword) l_Lword c_Lword k_Lword,
    g_Lword := PySem.W.mg_of X G a_Lword,
    b_Lword := (fun_mk (st := s_Lword) l_Lword c_Lword k_Lword).binds (ps := ["_law_told_here"]) fun _ _ _ _ _ _ us hl => match us, hl with | [_], _ => rfl,
    f_Ltold := _, fd_Ltold := _, F_Ltold := fun_mk (st := s_Ltold) l_Ltold c_Ltold k_Ltold,
    g_Ltold := PySem.W.mg_of X G a_Ltold,
    b_Ltold := (fun_mk (st := s_Ltold) l_Ltold c_Ltold k_Ltold).binds (ps := ["_law_word_here"]) fun _ _ _ _ _ _ us hl => match us, hl with | [_], _ => rfl,
    f_Ldrawn := _, fd_Ldrawn := _, F_Ldrawn := fun_mk (st := s_Ldrawn) l_Ldrawn c_Ldrawn k_Ldrawn,
    g_Ldrawn := PySem.W.mg_of X G a_Ldrawn,
    b_Ldrawn := (fun_mk (st := s_Ldrawn) l_Ldrawn c_Ldrawn k_Ldrawn).binds (ps := ["_law_pot_here"]) fun _ _ _ _ _ _ us hl => match us, hl with | [_], _ => rfl,
    f_Lword_right := _, fd_Lword_right := _, F_Lword_right := fun_mk (st := s_Lword_right) l_Lword_right c_Lword_right k_Lword_right,
    g_Lword_right := PySem.W.mg_of X G a_Lword_right,
    b_Lword_right := (fun_mk (st := s_Lword_right) l_Lword_right c_Lword_right k_Lword_right).binds (ps := ["_law_word_here"]) fun _ _ _ _ _ _ us hl => match us, hl with | [_], _ => rfl,
    f_Ltold_right := _, fd_Ltold_right := _, F_Ltold_right := fun_mk (st := s_Ltold_right) l_Ltold_right c_Ltold_right k_Ltold_right,
    g_Ltold_right := PySem.W.mg_of X G a_Ltold_right,
    b_Ltold_right := (fun_mk (st := s_Ltold_right) l_Ltold_right c_Ltold_right k_Ltold_right).binds (ps := ["_law_told_here"]) fun _ _ _ _ _ _ us hl => match us, hl with | [_], _ => rfl,
    f_Lends := _, fd_Lends := _, F_Lends := fun_mk (st := s_Lends) l_Lends c_Lends k_Lends,
    g_Lends := PySem.W.mg_of X G a_Lends,
    b_Lends := (fun_mk (st := s_Lends) l_Lends c_Lends k_Lends).binds (ps := ["_law_name"]) fun _ _ _ _ _ _ us hl => match us, hl with | [_], _ => rfl,
    f_law := _, fd_law := _, F_law := fun_mk (st := s_law) l_law c_law k_law,
    g_law := PySem.W.mg_of X G a_law,
    b_law := (fun_mk (st := s_law) l_law c_law k_law).binds (ps := ["_law_script"]) fun _ _ _ _ _ _ us hl => match us, hl with | [_], _ => rfl,
    m_abs := PySem.W.mg_none_of X G z_abs,
    m_all := PySem.W.mg_none_of X G z_all,
    m_bool := PySem.W.mg_none_of X G z_bool,
    m_divmod := PySem.W.mg_none_of X G z_divmod,
    m_int := PySem.W.mg_none_of X G z_int,
    m_isinstance := PySem.W.mg_none_of X G z_isinstance,
    m_len := PySem.W.mg_none_of X G z_len,
    m_list := PySem.W.mg_none_of X G z_list,
    m_max := PySem.W.mg_none_of X G z_max,
    m_range := PySem.W.mg_none_of X G z_range,
    m_repr := PySem.W.mg_none_of X G z_repr,
    m_str := PySem.W.mg_none_of X G z_str,
    m_sum := PySem.W.mg_none_of X G z_sum,
    m_tuple := PySem.W.mg_none_of X G z_tuple,
    m_zip := PySem.W.mg_none_of X G z_zip,
    c__WORD_BITS := ⟨_, PySem.W.mg_of X G x__WORD_BITS⟩,
    c_WORDS := ⟨_, PySem.W.mg_of X G x_WORDS⟩,
    c__NUMBER_BIT := ⟨_, PySem.W.mg_of X G x__NUMBER_BIT⟩,
    D_op := D_op,
    g_op := PySem.W.mg_of X G a_op,
    t_op := ⟨⟨_, _, ⟨l_op, y_op, w_op⟩⟩, o_op, n_op⟩,
    q_op := ⟨⟨_, _, ⟨l_op, y_op, w_op⟩, e_op⟩, by decide +kernel, by decide +kernel⟩,
    D_fo := D_fo,
    g_fo := PySem.W.mg_of X G a_fo,
    t_fo := ⟨⟨_, _, ⟨l_fo, y_fo, w_fo⟩⟩, o_fo, n_fo⟩,
    D_pa := D_pa,
    g_pa := PySem.W.mg_of X G a_pa,
    t_pa := ⟨⟨_, _, ⟨l_pa, y_pa, w_pa⟩⟩, o_pa, n_pa⟩ }
  exact ⟨_, fun s v => .of_eq rfl, fun base _ _ => ok_law (P := l.prog) (w := w) (base := base) T⟩
theorem walk {l : PySem.W.OpenLaw} {q : Program} {loose : List Str} {XP : (Str → Option Value) → Heap → Prop} {YP : World → Heap → Prop} {d : DefRec} {K : Params → PySem.W.Frag} (hn : l.most = some 63) (hdf : d.params.defaults = [])
    (hY : ∀ (w : World) (h : Heap), YP w h → (K w.params).In h)
    (F : ∀ (w : World) (mg : Str → Option Value) (fa : Addr) (h : Heap), (K w.params).In h → h.Ns mainGlobals mg → mg d.name = some (.ref fa) →
      ∃ fd : FuncData, (∀ (s : Shared) (u : Value), BindsTo s fd ⟨[u], []⟩ [("_law_script", u)]) ∧ ∀ base : Heap, (K w.params).In base → base.Ns mainGlobals mg → FnG l.prog w (K w.params) mg base 8 fa fd ["_law_script"] (sp_law (K w.params))) :
    PySem.W.WalkO q loose XP YP l.row.toRowW d [] (fun f vs => PySem.call f vs) :=
  walk_ofG (n := 63) (k := 8) (x := "_law_script") (sp := fun w => sp_law (K w.params)) hn (by decide) hdf ⟨rfl, by decide, by decide⟩ hY F (fun _ _ a ns hl _ hS => ⟨a, ns, rfl, hS, hl, fun _ => rfl⟩)
end K15
open PySem PySem.W PyProof.Rows
set_option maxRecDepth 100000 in
set_option maxHeartbeats 0 in
theorem PySem.Challenge.cw_orderlycore_k15_whole_words_and_instruct_holds : PySem.Challenge.rw_orderlycore_k15_whole_words_and_instruct.Holds := by
  w_on; o_law; k_head; (case hw => w_witness2)
  k_fill
  refine K15.walk (l := PySem.Challenge.rw_orderlycore_k15_whole_words_and_instruct) rfl rfl (fun w h Y => PySem.W.kIn_of Y) ?F
  case F =>
    intro w mg fa h KX G hmg
    refine' K15.all_mk KX G hmg ?a_is_integer ?l_is_integer ?c_is_integer ?k_is_integer ?a_is_between ?l_is_between ?c_is_between ?k_is_between ?a_is_word ?l_is_word ?c_is_word ?k_is_word ?a_need_word ?l_need_word ?c_need_word ?k_need_word ?a_need_bits ?l_need_bits ?c_need_bits ?k_need_bits ?a_bits ?l_bits ?c_bits ?k_bits ?a_operations ?l_operations ?c_operations ?k_operations ?a_is_operation ?l_is_operation ?c_is_operation ?k_is_operation ?a_is_instruction ?l_is_instruction ?c_is_instruction ?k_is_instruction ?a_need_instruction ?l_need_instruction ?c_need_instruction ?k_need_instruction ?a_encoded ?l_encoded ?c_encoded ?k_encoded ?a_decoded ?l_decoded ?c_decoded ?k_decoded ?a__word_of ?l__word_of ?c__word_of ?k__word_of ?a__form_of ?l__form_of ?c__form_of ?k__form_of ?a__fits ?l__fits ?c__fits ?k__fits ?a__stands ?l__stands ?c__stands ?k__stands ?a__number_at ?l__number_at ?c__number_at ?k__number_at ?a_Lpot ?l_Lpot ?c_Lpot ?k_Lpot ?a_Ldraw ?l_Ldraw ?c_Ldraw ?k_Ldraw ?a_Lpick ?l_Lpick ?c_Lpick ?k_Lpick ?a_Lnames ?l_Lnames ?c_Lnames ?k_Lnames ?a_Lform ?l_Lform ?c_Lform ?k_Lform ?a_Lshape ?l_Lshape ?c_Lshape ?k_Lshape ?a_Lword ?l_Lword ?c_Lword ?k_Lword ?a_Ltold ?l_Ltold ?c_Ltold ?k_Ltold ?a_Ldrawn ?l_Ldrawn ?c_Ldrawn ?k_Ldrawn ?a_Lword_right ?l_Lword_right ?c_Lword_right ?k_Lword_right ?a_Ltold_right ?l_Ltold_right ?c_Ltold_right ?k_Ltold_right ?a_Lends ?l_Lends ?c_Lends ?k_Lends ?a_law ?l_law ?c_law ?k_law ?z_abs ?z_all ?z_bool ?z_divmod ?z_int ?z_isinstance ?z_len ?z_list ?z_max ?z_range ?z_repr ?z_str ?z_sum ?z_tuple ?z_zip ?x__WORD_BITS ?x_WORDS ?x__NUMBER_BIT ?a_op ?l_op ?y_op ?w_op ?o_op ?n_op ?e_op ?a_fo ?l_fo ?y_fo ?w_fo ?o_fo ?n_fo ?a_pa ?l_pa ?y_pa ?w_pa ?o_pa ?n_pa
    (case a_is_integer => k_is)
    (case l_is_integer => k_is)
    (case c_is_integer => k_is)
    (case k_is_integer => k_is)
    (case a_is_between => k_is)
    (case l_is_between => k_is)
    (case c_is_between => k_is)
    (case k_is_between => k_is)
    (case a_is_word => k_is)
    (case l_is_word => k_is)
    (case c_is_word => k_is)
    (case k_is_word => k_is)
    (case a_need_word => k_is)
    (case l_need_word => k_is)
    (case c_need_word => k_is)
    (case k_need_word => k_is)
    (case a_need_bits => k_is)
    (case l_need_bits => k_is)
    (case c_need_bits => k_is)
    (case k_need_bits => k_is)
    (case a_bits => k_is)
    (case l_bits => k_is)
    (case c_bits => k_is)
    (case k_bits => k_is)
    (case a_operations => k_is)
    (case l_operations => k_is)
    (case c_operations => k_is)
    (case k_operations => k_is)
    (case a_is_operation => k_is)
    (case l_is_operation => k_is)
    (case c_is_operation => k_is)
    (case k_is_operation => k_is)
    (case a_is_instruction => k_is)
    (case l_is_instruction => k_is)
    (case c_is_instruction => k_is)
    (case k_is_instruction => k_is)
    (case a_need_instruction => k_is)
    (case l_need_instruction => k_is)
    (case c_need_instruction => k_is)
    (case k_need_instruction => k_is)
    (case a_encoded => k_is)
    (case l_encoded => k_is)
    (case c_encoded => k_is)
    (case k_encoded => k_is)
    (case a_decoded => k_is)
    (case l_decoded => k_is)
    (case c_decoded => k_is)
    (case k_decoded => k_is)
    (case a__word_of => k_is)
    (case l__word_of => k_is)
    (case c__word_of => k_is)
    (case k__word_of => k_is)
    (case a__form_of => k_is)
    (case l__form_of => k_is)
    (case c__form_of => k_is)
    (case k__form_of => k_is)
    (case a__fits => k_is)
    (case l__fits => k_is)
    (case c__fits => k_is)
    (case k__fits => k_is)
    (case a__stands => k_is)
    (case l__stands => k_is)
    (case c__stands => k_is)
    (case k__stands => k_is)
    (case a__number_at => k_is)
    (case l__number_at => k_is)
    (case c__number_at => k_is)
    (case k__number_at => k_is)
    (case a_Lpot => k_is)
    (case l_Lpot => k_is)
    (case c_Lpot => k_is)
    (case k_Lpot => k_is)
    (case a_Ldraw => k_is)
    (case l_Ldraw => k_is)
    (case c_Ldraw => k_is)
    (case k_Ldraw => k_is)
    (case a_Lpick => k_is)
    (case l_Lpick => k_is)
    (case c_Lpick => k_is)
    (case k_Lpick => k_is)
    (case a_Lnames => k_is)
    (case l_Lnames => k_is)
    (case c_Lnames => k_is)
    (case k_Lnames => k_is)
    (case a_Lform => k_is)
    (case l_Lform => k_is)
    (case c_Lform => k_is)
    (case k_Lform => k_is)
    (case a_Lshape => k_is)
    (case l_Lshape => k_is)
    (case c_Lshape => k_is)
    (case k_Lshape => k_is)
    (case a_Lword => k_is)
    (case l_Lword => k_is)
    (case c_Lword => k_is)
    (case k_Lword => k_is)
    (case a_Ltold => k_is)
    (case l_Ltold => k_is)
    (case c_Ltold => k_is)
    (case k_Ltold => k_is)
    (case a_Ldrawn => k_is)
    (case l_Ldrawn => k_is)
    (case c_Ldrawn => k_is)
    (case k_Ldrawn => k_is)
    (case a_Lword_right => k_is)
    (case l_Lword_right => k_is)
    (case c_Lword_right => k_is)
    (case k_Lword_right => k_is)
    (case a_Ltold_right => k_is)
    (case l_Ltold_right => k_is)
    (case c_Ltold_right => k_is)
    (case k_Ltold_right => k_is)
    (case a_Lends => k_is)
    (case l_Lends => k_is)
    (case c_Lends => k_is)
    (case k_Lends => k_is)
    (case a_law => k_is)
    (case l_law => k_is)
    (case c_law => k_is)
    (case k_law => k_is)
    (case z_abs => k_is)
    (case z_all => k_is)
    (case z_bool => k_is)
    (case z_divmod => k_is)
    (case z_int => k_is)
    (case z_isinstance => k_is)
    (case z_len => k_is)
    (case z_list => k_is)
    (case z_max => k_is)
    (case z_range => k_is)
    (case z_repr => k_is)
    (case z_str => k_is)
    (case z_sum => k_is)
    (case z_tuple => k_is)
    (case z_zip => k_is)
    (case x__WORD_BITS => k_is)
    (case x_WORDS => k_is)
    (case x__NUMBER_BIT => k_is)
    (case a_op => k_is)
    (case l_op => k_is)
    (case y_op => repeat (first | exact trivial | refine ⟨⟨_, _, rfl, rfl⟩, ?_⟩ | refine ⟨⟨_, _, rfl, ?_⟩, ?_⟩))
    (case w_op => first | rfl | decide)
    (case o_op => kernel_rfl)
    (case n_op => kernel_rfl)
    (case e_op => kernel_rfl)
    (case a_fo => k_is)
    (case l_fo => k_is)
    (case y_fo => repeat (first | exact trivial | refine ⟨⟨_, _, rfl, rfl⟩, ?_⟩ | refine ⟨⟨_, _, rfl, ?_⟩, ?_⟩))
    (case w_fo => first | rfl | decide)
    (case o_fo => kernel_rfl)
    (case n_fo => kernel_rfl)
    (case a_pa => k_is)
    (case l_pa => k_is)
    (case y_pa => repeat (first | exact trivial | refine ⟨⟨_, _, rfl, rfl⟩, ?_⟩ | refine ⟨⟨_, _, rfl, ?_⟩, ?_⟩))
    (case w_pa => first | rfl | decide)
    (case o_pa => kernel_rfl)
    (case n_pa => kernel_rfl)


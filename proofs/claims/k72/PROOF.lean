import PyProof.Rows.All
import Wide.All
import OpenK.AllK
import Wide.FinOn
import HandS.ForMost
import HandS.IsInst
import HandS.Wide
import HandS.Style
import HandS.Walk
import HandS.Zip
import HandS.Flow
import HandS.ForExc
import HandS.ExcInit
import HandS.Property
import HandS.TupSets
import HandS.Ends
import HandS.OwnEq
import HandS.MakeKw
import HandS.MakeKwOnly
import HandS.DictComp
import HandS.SortKw
import HandS.SortInts
import HandS.Conv
import HandS.SetFor
import HandS.Strs
import HandS.Set
import PySem.Challenge.RW_orderlycore_k72_whole_stations_by_waking
set_option Elab.async false
set_option linter.all false
set_option maxRecDepth 100000
set_option maxHeartbeats 4000000
namespace Hx
open PySem PySem.Spec PyProof.Rows L2
/-! ### own rules -/
section
variable {X : Cx} {CX : CXT} {k : Nat} {f : Addr} {fd : FuncData} {ps ks : List Str} {sp : Sp} {E : XK} {x : Str} {p pos : Pos} {kws : List Keyword} {tk : TA} {g : List Value → List Value → List Value} {gV : List V → List V → List V}
theorem pe_callKA (F : FnOk X.prog X.w X.K X.mg X.base CX k f fd ps sp) (hr : Room k X.A) (hg : Gl X x) (hm : X.mg x = some (.ref f)) (hk : PySem.W.keepIn X.K (.ref f) = true) (hb : KBinds X.K fd ps ks g gV) (hx : Passes CX X E)
    (hkw : PK X kws tk) (hall : (backToKw pos (keywordEach kws X.env)).all (·.1.isSome) = true := by rfl) (hks : (backToKw pos (keywordEach kws X.env)).filterMap (·.1) = ks := by rfl)
    (hdb : (x == ("__debug__" : Str)) = false := by decide)
    (hpl : ((backTo pos (starEach [] X.env)).any (·.1) || (backToKw pos (keywordEach kws X.env)).any (·.1.isNone)) = false := by rfl) :
    PE X (.Call (.Name x p) [] kws pos) (tCallK sp gV E tNil tk) := by
  refine ⟨fun pins s σ H Q I h => ?_⟩
  refine wpAny_Call_Name_kw (ld_glob I hg hm ?_ hdb)
  refine PySem.W.callWith_KW0 (h₀ := X.base) I.ok.mod.kin hk hall ?_ hpl
  refine thn (hkw.run pos pins s σ H _ I h) fun ws s2 ⟨zs, H2, I2, rz, q2⟩ => ⟨I2.kIn, ?_⟩
  rw [hks]
  exact run_fnk F hr hb hx I2 .nil rz q2
/-- all by keywords, in the parameters' own order -/
def kwG {α : Type} (us ws : List α) : List α := match us with | [] => ws | _ => []
theorem kw_binds {K : PySem.W.Frag} {x qual : Str} {st : Stmt} {f : Addr} {fd : FuncData} {ps : List Str} (F : Fun K x qual st f fd) (h0 : 0 < ps.length)
    (h : ∀ (kV doc pm : Value) (an : Option Addr) (cdv ct : Value) (us : List Value), us.length = ps.length → bindArgs (PySem.W.fnOf x qual (defArgs st) (defBody st) (defScope st) .none kV doc pm an cdv ct) ⟨[], ps.zip us⟩ = pure (ps.zip us)) : KBinds K fd ps ps kwG kwG := by
  obtain ⟨oc, od, kV, doc, pm, an, cdv, ct, osl, rfl, lk, hcd⟩ := F.ex
  refine ⟨fun s us ws _ hl => ?_, fun {vs us zs ws} r1 r2 => ?_⟩
  · cases us with
    | nil => exact .of_eq (h kV doc pm an cdv ct ws hl)
    | cons a t => exact absurd hl (by simp [kwG]; omega)
  · cases r1 with
    | nil => exact r2
    | cons a t => exact .nil
theorem pg_pair {i j : Nat} {x y : Str} {p1 p2 : Pos} {kk : Nat} (hc : X.calm = true) (hN : X.N.Nodup) (hi : X.N[i]? = some x) (hj : X.N[j]? = some y) (hx : Loc X.env.scope x) (hy : Loc X.env.scope y)
    (hf : X.fn x = true ∨ X.env.scope.names.lookup x = some .local := by first | exact .inl rfl | exact .inr rfl | assumption) (hf2 : X.fn y = true ∨ X.env.scope.names.lookup y = some .local := by first | exact .inl rfl | exact .inr rfl | assumption)
    (hn : (assignEach [Expr.Name x p1, .Name y p2] X.env).length = 2 := by rfl) (hst : (assignEach [Expr.Name x p1, .Name y p2] X.env).findIdx? (·.1) = none := by rfl)
    (hs : (assignEach [Expr.Name x p1, .Name y p2] X.env).map (·.2) = assign (.Name x p1) X.env :: (assignEach [Expr.Name y p2] X.env).map (·.2) := by rfl)
    (hs2 : (assignEach [Expr.Name y p2] X.env).map (·.2) = assign (.Name y p2) X.env :: (assignEach [] X.env).map (·.2) := by rfl) :
    PG X (.Tuple [.Name x p1, .Name y p2] kk pos) (gTup X.K 2 (gCons (gName i) (gCons (gName j) gNil))) :=
  pg_tup hc (pgs_cons (pg_name hN hi hx hf) (pgs_cons (pg_name hN hj hy hf2) pgs_nil hs2) hs) hn hst
theorem pe_gint {i : Int} (hg : Gl X x) (hm : ∃ t, X.mg x = some (.int i t)) (hd : (x == ("__debug__" : Str)) = false := by decide) : PE X (.Name x pos) (tC (.int i)) := by
  obtain ⟨t, hm⟩ := hm
  exact pe_glob hg hm ⟨_, rfl⟩ hd
end
theorem call_int1i {X : Cx} : CallR X (.type "int") (fun xs H Q => ∃ i, xs = [.int i] ∧ Q (.int i) H) := fun pins s σ H xs us Q I r h => call_int1 pins s σ H xs us Q I r (.inl h)
theorem call_int1b {X : Cx} : CallR X (.type "int") (fun xs H Q => ∃ k, xs = [.bl k] ∧ Q (.int (if k then 1 else 0)) H) := fun pins s σ H xs us Q I r h => call_int1 pins s σ H xs us Q I r (.inr h)
theorem call_len_list {X : Cx} : CallR X (.builtin "len") (fun xs H Q => ∃ p ys, xs = [.ref p] ∧ SqL X.K H p ys ∧ Q (.int ys.length) H) := fun pins s σ H xs us Q I r ⟨p, ys, e, h, q⟩ => call_len_seq pins s σ H xs us Q I r ⟨p, ys, e, .inl h, q⟩
/-- a goal at which the walker of readings stops -/
structure Stop (p : Prop) : Prop where
  h : p
theorem stop_eq {p : Prop} : Stop p = p := propext ⟨fun q => q.h, fun q => ⟨q⟩⟩
def tForS (wi : TI) (g : TG) (tb : TS) : TS := fun D σ H => wi σ H fun J H1 => Stop (∃ W : Nat → Nat → L2.St → Hp → Prop, (∃ m, W 0 m σ H1) ∧ ∀ i m σ H, W i m σ H →
  (J.stop i H ∧ D.nx σ H) ∨ (J.go i H ∧ ∃ N : L2.St → Hp → Prop, (∀ σ' H', N σ' H' → ∃ m', m' < m ∧ W (i + 1) m' σ' H') ∧ ∀ x H', J.yld i H x H' → g x σ H' fun σ2 H2 => tb { D with nx := N, ct := N, bk := D.nx } σ2 H2))
theorem tForS_eq (wi : TI) (g : TG) (tb : TS) : tForS wi g tb = tFor wi g tb := by
  funext D σ H
  unfold tForS tFor
  simp only [stop_eq]
theorem ps_forS {X : Cx} {tg iter : Expr} {body : List Stmt} {wi : TI} {g : TG} {tb : TS} {pos : Pos} (hp : PassesOwn (model X.prog X.w) X.A X.env X.xe) (hc : X.calm = true) (hi : PI X tg iter wi) (hg : PG X tg g) (hb : PSs X body tb)
    (hs : ∀ x, foldedSetIterable iter X.env x = pure x := by intro _; rfl) : PS X (.For tg iter body [] pos) (tForS wi g tb) := by
  rw [tForS_eq]
  exact ps_for hp hc hi hg hb hs
/-! ### heaps -/
theorem same_upd {H : Hp} {p : Addr} {o : HO} (h : H p = none) : Same H (upd H p o) := fun b u e => by rw [upd_ne (ne_of_none e h)]; exact e
theorem Same.upd {H H1 : Hp} {p : Addr} {o : HO} (s : Same H H1) (h : H1 p = none) : Same H (L2.upd H1 p o) := L2.Same.trans s (same_upd h)
theorem Same.free' {H H1 : Hp} (s : Same H H1) {p : Addr} (h : H1 p = none) : H p = none := L2.Same.free s h
/-- all but a is as it was -/
def But (a : Addr) (H H' : Hp) : Prop := ∀ b o, b ≠ a → H b = some o → H' b = some o
theorem But.refl {a : Addr} (H : Hp) : But a H H := fun _ _ _ h => h
theorem But.trans {a : Addr} {H H1 H2 : Hp} (x : But a H H1) (y : But a H1 H2) : But a H H2 := fun b o n h => y b o n (x b o n h)
theorem But.same {a : Addr} {H H1 : Hp} (x : Same H H1) : But a H H1 := fun b o _ h => x b o h
theorem But.set {a : Addr} {H : Hp} {o : HO} : But a H (upd H a o) := fun b u n h => by rw [upd_ne n]; exact h
theorem But.new {a : Addr} {H H1 : Hp} {p : Addr} {o : HO} (x : But a H H1) (h : H1 p = none) : But a H (upd H1 p o) := x.trans (But.same (same_upd h))
theorem size_le {n : Nat} (h : n ≤ 10000) : n ≤ sizeLine := by rw [sizeLine_eq]; omega
theorem size_lt {n : Nat} (h : n ≤ 10000) : n < sizeLine := by rw [sizeLine_eq]; omega
theorem iteD {c A B : Prop} [Decidable c] (h1 : c → A) (h2 : ¬ c → B) : if decide c = true then A else B := by
  by_cases h : c
  · rw [decide_eq_true h]; exact iteT (h1 h)
  · rw [decide_eq_false h]; exact iteF (h2 h)
theorem iteN {c A B : Prop} [Decidable c] (h1 : ¬ c → A) (h2 : c → B) : if (!decide c) = true then A else B := by
  by_cases h : c
  · rw [decide_eq_true h]; exact iteF (h2 h)
  · rw [decide_eq_false h]; exact iteT (h1 h)
theorem qbl {Q : VK} {b c : Bool} {H : Hp} (k : Q (.bl b) H) (e : c = b) : Q (.bl c) H := e ▸ k
theorem qint {Q : VK} {i j : Int} {H : Hp} (k : Q (.int i) H) (e : j = i) : Q (.int j) H := e ▸ k
theorem same_set {H H1 : Hp} {p : Addr} {o : HO} (s : Same H H1) (n : H p = none) : Same H (upd H1 p o) := fun b u e => by rw [upd_ne (ne_of_none e n)]; exact s b u e
theorem old_upd {H : Hp} {p a : Addr} {o u : HO} (n : H p = none) (h : H a = some u) : upd H p o a = some u := same_upd n _ _ h
theorem SqL.new {K : PySem.W.Frag} {H : Hp} {p a : Addr} {o : HO} {xs : List V} (n : H p = none) (h : SqL K H a xs) : SqL K (upd H p o) a xs := L2.Same.seq (same_upd n) h
theorem tyl_new {K : PySem.W.Frag} {H : Hp} {p a : Addr} {o : HO} {xs : List V} (h : H a = some (.lst xs)) (n : H p = none) : tyV K "list" (.ref a) (upd H p o) := Or.inl ⟨rfl, xs, SqL.of (old_upd n h)⟩
theorem tyl_of {K : PySem.W.Frag} {H : Hp} {a : Addr} {xs : List V} (h : H a = some (.lst xs)) : tyV K "list" (.ref a) H := Or.inl ⟨rfl, xs, SqL.of h⟩
theorem same_at {H H' : Hp} {a : Addr} {u : HO} (s : Same H H') (h : H a = some u) : H' a = some u := s _ _ h
theorem same_trans' {H H1 H2 : Hp} (b : Same H1 H2) (a : Same H H1) : Same H H2 := L2.Same.trans a b
/-! ### comprehensions that keep what stood -/
theorem lc_mapS {K : PySem.W.Frag} {a : Addr} {xs : List V} {g : TG} {te : TE} {vs : List Nat} {σ : L2.St} {H1 : Hp} {D : Addr} {Qd : Hp → Prop} (ys : List V) (ha : SqL K H1 a xs) (hD : H1 D = none) (hl : xs.length = ys.length) (hz : xs.length ≤ 10000)
    (hs : ∀ (i : Nat) (x y : V) (H' : Hp) (Q : VK), xs[i]? = some x → ys[i]? = some y → Same H1 H' → (∀ H'', Same H' H'' → Q y H'') → g x (wipe σ vs) H' fun σ2 H2 => wipe σ2 vs = wipe σ vs ∧ te σ2 H2 Q)
    (hd : ∀ H', Same H1 H' → H' D = some (.lst ys) → Qd H') :
    ∃ W : Nat → Nat → Hp → Prop, (∃ m, W 0 m (upd H1 D (.lst []))) ∧ ∀ i m H, W i m H →
      ((Itl K a).stop i H ∧ Qd H) ∨ ((Itl K a).go i H ∧ ∃ Nx : Hp → Prop, (∀ H', Nx H' → ∃ m', m' < m ∧ W (i + 1) m' H') ∧ ∀ x H', (Itl K a).yld i H x H' → g x (wipe σ vs) H' fun σ2 H2 => wipe σ2 vs = wipe σ vs ∧ tYes σ2 H2 fun b H3 =>
        if b = true then te σ2 H3 fun y H4 => ∃ acc, H4 D = some (.lst acc) ∧ acc.length < sizeLine ∧ Nx (upd H4 D (.lst (acc ++ [y]))) else Nx H3) := by
  refine lc_list (xs := xs) (fun i H => Same H1 H ∧ H D = some (.lst (ys.take i))) ⟨same_upd hD, upd_same⟩ (fun i H _ h => L2.Same.seq h.1 ha) (fun i x H hx h => ?_) (fun H h => hd H h.1 (by rw [h.2, List.take_of_length_le (by omega)]))
  have hi : i < ys.length := by have := (List.getElem?_eq_some_iff.mp hx).1; omega
  refine hs i x ys[i] H _ hx (List.getElem?_eq_getElem hi) h.1 (fun H'' s => ?_)
  refine ⟨ys.take i, s _ _ h.2, size_lt (by simp; omega), same_set (L2.Same.trans h.1 s) hD, ?_⟩
  rw [upd_same, List.take_add_one, List.getElem?_eq_getElem hi]; rfl
theorem lc_mapZ {K : PySem.W.Frag} {a b : Addr} {xs zs : List V} {g : TG} {te : TE} {vs : List Nat} {σ : L2.St} {H1 : Hp} {D : Addr} {Qd : Hp → Prop} (ys : List V) (ha : SqL K H1 a xs) (hb : SqL K H1 b zs) (hD : H1 D = none) (hl : xs.length = ys.length) (hl2 : xs.length = zs.length) (hz : xs.length ≤ 10000)
    (hs : ∀ (i : Nat) (x z y : V) (T : Addr) (H' : Hp) (Q : VK), xs[i]? = some x → zs[i]? = some z → ys[i]? = some y → Same H1 H' → H' T = none → (∀ H'', Same (upd H' T (.tup [x, z])) H'' → Q y H'') → g (.ref T) (wipe σ vs) (upd H' T (.tup [x, z])) fun σ2 H2 => wipe σ2 vs = wipe σ vs ∧ te σ2 H2 Q)
    (hd : ∀ H', Same H1 H' → H' D = some (.lst ys) → Qd H') :
    ∃ W : Nat → Nat → Hp → Prop, (∃ m, W 0 m (upd H1 D (.lst []))) ∧ ∀ i m H, W i m H →
      ((Itz K a b).stop i H ∧ Qd H) ∨ ((Itz K a b).go i H ∧ ∃ Nx : Hp → Prop, (∀ H', Nx H' → ∃ m', m' < m ∧ W (i + 1) m' H') ∧ ∀ x H', (Itz K a b).yld i H x H' → g x (wipe σ vs) H' fun σ2 H2 => wipe σ2 vs = wipe σ vs ∧ tYes σ2 H2 fun b H3 =>
        if b = true then te σ2 H3 fun y H4 => ∃ acc, H4 D = some (.lst acc) ∧ acc.length < sizeLine ∧ Nx (upd H4 D (.lst (acc ++ [y]))) else Nx H3) := by
  refine lc_it (walk_zip (xs := xs) (ys := zs) (n := xs.length) (by omega)) (fun i H => Same H1 H ∧ H D = some (.lst (ys.take i))) ⟨same_upd hD, upd_same⟩ (fun i H _ h => ⟨L2.Same.seq h.1 ha, L2.Same.seq h.1 hb⟩) (fun i x H H' hi h y => ?_) (fun H h => hd H h.1 (by rw [h.2, List.take_of_length_le (by omega)]))
  obtain ⟨T, x', z', rfl, hT, rfl, hx, hz'⟩ := y
  have hi' : i < ys.length := by omega
  refine hs i x' z' ys[i] T H _ hx hz' (List.getElem?_eq_getElem hi') h.1 hT (fun H'' s => ?_)
  refine ⟨ys.take i, s _ _ (old_upd hT h.2), size_lt (by simp; omega), same_set (L2.Same.trans (Same.upd h.1 hT) s) hD, ?_⟩
  rw [upd_same, List.take_add_one, List.getElem?_eq_getElem hi']; rfl
/-! ### two lists of the same ints -/
theorem dp_ints {K : PySem.W.Frag} {H : Hp} : ∀ ns : List Int, DpAll K H (ns.map V.int) (ns.map PyData.int)
  | [] => .nil
  | n :: r => .cons (.int n) (dp_ints r)
theorem sh_ints (ns : List Int) : SeqAt.shaped (.list (ns.map PyData.int)) = true := PySem.W.shaped_ints ns
theorem eqv_ints (ns : List Int) : PyData.eqv (.list (ns.map PyData.int)) (.list (ns.map PyData.int)) = true := SeqAt.eqv_refl _ (SeqAt.canLay_of_shaped (sh_ints ns))
theorem op_eqLI {X : Cx} (hu : X.A.units + 64 < cLine) : OpR X (compareOp .Eq) (fun x y H Q => ∃ (p q : Addr) (ns : List Int), x = .ref p ∧ y = .ref q ∧ SqL X.K H p (ns.map V.int) ∧ SqL X.K H q (ns.map V.int) ∧ Q (.bl true) H) := by
  intro pins s σ H x y v u Q I rx ry ⟨p, q, ns, e1, e2, h1, h2, k⟩
  refine op_eqD hu pins s σ H x y v u Q I rx ry ⟨.list (ns.map PyData.int), .list (ns.map PyData.int), ?_, ?_, ?_, ?_, ?_⟩
  · rw [e1]; exact .lst h1 (dp_ints ns)
  · rw [e2]; exact .lst h2 (dp_ints ns)
  · exact sh_ints ns
  · exact sh_ints ns
  · rw [eqv_ints]; exact k
theorem op_neLI {X : Cx} (hu : X.A.units + 64 < cLine) : OpR X (compareOp .NotEq) (fun x y H Q => ∃ (p q : Addr) (ns : List Int), x = .ref p ∧ y = .ref q ∧ SqL X.K H p (ns.map V.int) ∧ SqL X.K H q (ns.map V.int) ∧ Q (.bl false) H) := by
  intro pins s σ H x y v u Q I rx ry ⟨p, q, ns, e1, e2, h1, h2, k⟩
  refine op_neD hu pins s σ H x y v u Q I rx ry ⟨.list (ns.map PyData.int), .list (ns.map PyData.int), ?_, ?_, ?_, ?_, ?_⟩
  · rw [e1]; exact .lst h1 (dp_ints ns)
  · rw [e2]; exact .lst h2 (dp_ints ns)
  · exact sh_ints ns
  · exact sh_ints ns
  · rw [eqv_ints]; exact k
/-! ### the pot -/
structure Pot (H : Hp) (a : Addr) : Prop where
  ex : ∃ x y : Int, H a = some (.lst [.int x, .int y]) ∧ 0 ≤ x ∧ 0 ≤ y ∧ y < 4294967296
theorem Pot.same {H H' : Hp} {a : Addr} (s : Same H H') (h : Pot H a) : Pot H' a := by
  obtain ⟨x, y, e, r⟩ := h
  exact ⟨x, y, s _ _ e, r⟩
theorem Pot.new {H : Hp} {a p : Addr} {o : HO} (h : Pot H a) (n : H p = none) : Pot (upd H p o) a := h.same (same_upd n)
theorem Pot.ne {H : Hp} {a p : Addr} (h : Pot H a) (n : H p = none) : p ≠ a := by
  obtain ⟨x, y, e, r⟩ := h
  exact fun z => by rw [z, e] at n; cases n
theorem mulw {i j : Int} {a b : Nat} (ha : i.natAbs < 2 ^ a) (hb : j.natAbs < 2 ^ b) (h0 : 0 < a := by decide) (h1 : 0 < b := by decide) (h : a + b ≤ 1000000 := by decide) : CMulW i j := wide_mul ha hb h0 h1 h
theorem mulw64 {i j : Int} (ha : i.natAbs < 18446744073709551616) (hb : j.natAbs < 18446744073709551616) : CMulW i j := wide_mul (a := 64) (b := 64) ha hb (by decide) (by decide) (by decide)
theorem pick_at {xs : List V} {d : Int} (h0 : 0 ≤ d) (h1 : d < xs.length) : ∃ v, atI xs d = some v ∧ v ∈ xs := by
  have hd : d.toNat < xs.length := by omega
  exact ⟨xs[d.toNat], at_of (j := d.toNat) (by omega) (List.getElem?_eq_getElem hd), List.getElem_mem hd⟩
theorem take_fold {α β : Type} {f : β → α → β} {z : β} {l : List α} {i : Nat} {x : α} (h : l[i]? = some x) : (l.take (i + 1)).foldl f z = f ((l.take i).foldl f z) x := by
  rw [List.take_add_one, h, Option.toList_some, List.foldl_append]; rfl
theorem int_get {ns : List Int} {i : Nat} {x : V} (h : (ns.map V.int)[i]? = some x) : ∃ z, x = .int z ∧ ns[i]? = some z := by
  rw [List.getElem?_map] at h
  obtain ⟨z, hz, e⟩ := Option.map_eq_some_iff.mp h
  exact ⟨z, e.symm, hz⟩
/-- called with the pot and how many: a number below that, and the pot is still one -/
def spDraw : Sp := fun vs H Q _ => ∃ (a : Addr) (n : Int), vs = [.ref a, .int n] ∧ Pot H a ∧ 0 < n ∧ n < 1073741824 ∧
  ∀ (d : Int) (H' : Hp), 0 ≤ d → d < n → Pot H' a → But a H H' → Q (.int d) H'
end Hx

set_option Elab.async false
set_option linter.all false
set_option maxRecDepth 100000
set_option maxHeartbeats 4000000
namespace Hx
open PySem PySem.Spec PyProof.Rows L2
/-! ### own rules for objects and errors -/
def kwM {α : Type} (us ws : List α) : List α := match us with | [x] => x :: ws | _ => []
theorem kw_bindsM {K : PySem.W.Frag} {x qual : Str} {st : Stmt} {f : Addr} {fd : FuncData} {ps : List Str} (F : Fun K x qual st f fd) (h0 : 0 < ps.length)
    (h : ∀ (kV doc pm : Value) (an : Option Addr) (cdv ct : Value) (u : Value) (us : List Value), us.length = ps.tail.length → bindArgs (PySem.W.fnOf x qual (defArgs st) (defBody st) (defScope st) .none kV doc pm an cdv ct) ⟨[u], ps.tail.zip us⟩ = pure (ps.zip (u :: us))) : KBinds K fd ps ps.tail kwM kwM := by
  obtain ⟨oc, od, kV, doc, pm, an, cdv, ct, osl, rfl, lk, hcd⟩ := F.ex
  refine ⟨fun s us ws _ hl => ?_, fun {vs us zs ws} r1 r2 => ?_⟩
  · match us, hl with
    | [], hl => exact absurd hl (by simp [kwM]; omega)
    | [u], hl => exact .of_eq (h kV doc pm an cdv ct u ws (by simp [kwM] at hl ⊢; omega))
    | _ :: _ :: _, hl => exact absurd hl (by simp [kwM]; omega)
  · cases r1 with
    | nil => exact .nil
    | cons a t =>
      cases t with
      | nil => exact .cons a r2
      | cons b t => exact .nil
section
variable {X : Cx} {CX : CXT} {k : Nat} {f C : Addr} {fd : FuncData} {ps ks : List Str} {sp : Sp} {E : L2.St → XK} {E1 : XK} {x m : Str} {p pos apos : Pos} {e o : Expr} {es : List Expr} {ta : TE} {t tk : TA} {kws : List Keyword} {g : List Value → List Value → List Value} {gV : List V → List V → List V}
def tMethA (C : Addr) (m : Str) (sp : Sp) (E : L2.St → XK) (ta : TE) (t : TA) : TE := fun σ H Q => ta σ H fun x H1 => ∃ a dx fs, x = .ref a ∧ H1 a = some (.ins C dx fs) ∧ fs.lookup m = none ∧ t σ H1 fun vs H2 => sp (x :: vs) H2 Q (E σ)
/-- o.m(e, ..) that may raise, within a try -/
theorem pe_methA {E : L2.St → XK} {pl : Sem Bool} (he : PE X o ta) (c : Cls X.K C) (hm : Meth X.K C m f) (F : FnOk X.prog X.w X.K X.mg X.base CX k f fd ps sp) (hr : Room k X.A) (hb : Binds X.K fd ps []) (hx : ∀ σ, PassesAt CX X σ (E σ)) (ha : PA X (e :: es) t)
    (hst : starEach (e :: es) X.env = (false, eval e X.env) :: starEach es X.env := by rfl) (hpl : (backTo pos (starEach es X.env)).any (·.1) = false := by rfl)
    (ht : eval (.Call (.Attribute o m apos) (e :: es) [] pos) X.env = (do
      let ov ← eval o X.env
      standAt apos.atName
      let (f, first) ← holding [ov] (getMethod ov m pl)
      callWith pos f first (backTo pos (starEach (e :: es) X.env)) (backToKw pos (keywordEach [] X.env))) := by rfl) :
    PE X (.Call (.Attribute o m apos) (e :: es) [] pos) (tMethA C m sp E ta t) := by
  refine ⟨fun pins s σ H Q I h => ?_⟩
  refine PySem.W.methodCall_KW (pl := pl) (thn (he.run pins s σ H _ I h) fun u s1 ⟨x, H1, I1, rx, a, dx, fs, ex, ea, l, q⟩ => ?_) ht
  subst ex
  obtain rfl : u = Value.ref a := rx
  refine getmeth_ok I1 ea c hm l ?_
  refine PySem.W.callWith_K (first := [.ref a]) (h₀ := X.base) I.ok.mod.kin hm.kp (thn (ha.run pos pins s1 σ H1 _ I1 q) fun us s2 ⟨vs, H2, I2, r, q2⟩ => ⟨I2.kIn, ?_⟩) hst hpl
  exact run_fnS (us := .ref a :: us) (vs := .ref a :: vs) F hr hb (hx σ) I2 (.cons rfl r) q2
def tMethK (C : Addr) (m : Str) (sp : Sp) (gV : List V → List V → List V) (E : XK) (ta : TE) (tk : TA) : TE := fun σ H Q => ta σ H fun x H1 => ∃ a dx fs, x = .ref a ∧ H1 a = some (.ins C dx fs) ∧ fs.lookup m = none ∧ tk σ H1 fun zs H2 => sp (gV [x] zs) H2 Q E
/-- o.m(k=e, ..) -/
theorem pe_methKA {pl : Sem Bool} (he : PE X o ta) (c : Cls X.K C) (hm : Meth X.K C m f) (F : FnOk X.prog X.w X.K X.mg X.base CX k f fd ps sp) (hr : Room k X.A) (hb : KBinds X.K fd ps ks g gV) (hx : Passes CX X E1)
    (hkw : PK X kws tk) (hall : (backToKw pos (keywordEach kws X.env)).all (·.1.isSome) = true := by rfl) (hks : (backToKw pos (keywordEach kws X.env)).filterMap (·.1) = ks := by rfl)
    (hpl : ((backTo pos (starEach [] X.env)).any (·.1) || (backToKw pos (keywordEach kws X.env)).any (·.1.isNone)) = false := by rfl)
    (ht : eval (.Call (.Attribute o m apos) [] kws pos) X.env = (do
      let ov ← eval o X.env
      standAt apos.atName
      let (f, first) ← holding [ov] (getMethod ov m pl)
      callWith pos f first (backTo pos (starEach [] X.env)) (backToKw pos (keywordEach kws X.env))) := by rfl) :
    PE X (.Call (.Attribute o m apos) [] kws pos) (tMethK C m sp gV E1 ta tk) := by
  refine ⟨fun pins s σ H Q I h => ?_⟩
  refine PySem.W.methodCall_KW (pl := pl) (thn (he.run pins s σ H _ I h) fun u s1 ⟨x, H1, I1, rx, a, dx, fs, ex, ea, l, q⟩ => ?_) ht
  subst ex
  obtain rfl : u = Value.ref a := rx
  refine getmeth_ok I1 ea c hm l ?_
  refine PySem.W.callWith_KW0 (first := [.ref a]) (h₀ := X.base) I.ok.mod.kin hm.kp hall ?_ hpl
  refine thn (hkw.run pos pins s1 σ H1 _ I1 q) fun ws s2 ⟨zs, H2, I2, rz, q2⟩ => ⟨I2.kIn, ?_⟩
  rw [hks]
  exact run_fnk (us := [.ref a]) (vs := [.ref a]) F hr hb hx I2 (.cons rfl .nil) rz q2
theorem PI.or {tg iter : Expr} {w1 w2 : TI} (h1 : PI X tg iter w1) (h2 : PI X tg iter w2) : PI X tg iter (fun σ H R => w1 σ H R ∨ w2 σ H R) := ⟨fun pins s σ H R I h => h.elim (h1.run pins s σ H R I) (h2.run pins s σ H R I)⟩
end
theorem exm_self {K : PySem.W.Frag} {S : Addr} (h1 : PySem.W.subIn K (.ref S) (.type "BaseException") = some true) (h2 : PySem.W.isClsIn K S = true) (h3 : PySem.W.typeIn K (.ref S) = some (.type "type")) (h4 : PySem.W.subIn K (.ref S) (.ref S) = some true) :
    PySem.W.exmOne K (.ref S) (.ref S) = some true := by
  have e1 : (PySem.W.subIn K (.ref S) (.type "BaseException") == some true) = true := by rw [h1] <;> rfl
  have e2 : ((PySem.W.clsIn K S).isSome && PySem.W.typeIn K (.ref S) == some (.type "type")) = true := by
    have h2' : (PySem.W.clsIn K S).isSome = true := h2
    rw [h2', h3] <;> rfl
  show (if (PySem.W.subIn K (.ref S) (.type "BaseException") == some true) = true then (if ((PySem.W.clsIn K S).isSome && PySem.W.typeIn K (.ref S) == some (.type "type")) = true then PySem.W.subIn K (.ref S) (.ref S) else none) else none) = some true
  rw [if_pos e1, if_pos e2]
  exact h4
def tStop (t : TS) : TS := fun D σ H => t { D with nx := fun σ H => Stop (D.nx σ H) } σ H
theorem ps_stop {X : Cx} {st : Stmt} {t : TS} (h : PS X st t) : PS X st (tStop t) := by
  have e : tStop t = t := by
    funext D σ H
    unfold tStop
    simp only [stop_eq]
  rw [e]
  exact h
theorem lc_mapT {K : PySem.W.Frag} {a : Addr} {xs : List V} {g : TG} {te : TE} {vs : List Nat} {σ : L2.St} {H1 : Hp} {D : Addr} {Qd : Hp → Prop} (ys : List V) (ha : SqT K H1 a xs) (hD : H1 D = none) (hl : xs.length = ys.length) (hz : xs.length ≤ 10000)
    (hs : ∀ (i : Nat) (x y : V) (H' : Hp) (Q : VK), xs[i]? = some x → ys[i]? = some y → Same H1 H' → (∀ H'', Same H' H'' → Q y H'') → g x (wipe σ vs) H' fun σ2 H2 => wipe σ2 vs = wipe σ vs ∧ te σ2 H2 Q)
    (hd : ∀ H', Same H1 H' → H' D = some (.lst ys) → Qd H') :
    ∃ W : Nat → Nat → Hp → Prop, (∃ m, W 0 m (upd H1 D (.lst []))) ∧ ∀ i m H, W i m H →
      ((Itt K a).stop i H ∧ Qd H) ∨ ((Itt K a).go i H ∧ ∃ Nx : Hp → Prop, (∀ H', Nx H' → ∃ m', m' < m ∧ W (i + 1) m' H') ∧ ∀ x H', (Itt K a).yld i H x H' → g x (wipe σ vs) H' fun σ2 H2 => wipe σ2 vs = wipe σ vs ∧ tYes σ2 H2 fun b H3 =>
        if b = true then te σ2 H3 fun y H4 => ∃ acc, H4 D = some (.lst acc) ∧ acc.length < sizeLine ∧ Nx (upd H4 D (.lst (acc ++ [y]))) else Nx H3) := by
  refine lc_tup (xs := xs) (fun i H => Same H1 H ∧ H D = some (.lst (ys.take i))) ⟨same_upd hD, upd_same⟩ (fun i H _ h => ha.elim (fun r => r.elim (fun e => .inl (.inl (h.1 _ _ e))) (fun ⟨o, e⟩ => .inl (.inr ⟨o, h.1 _ _ e⟩))) .inr) (fun i x H hx h => ?_) (fun H h => hd H h.1 (by rw [h.2, List.take_of_length_le (by omega)]))
  have hi : i < ys.length := by have := (List.getElem?_eq_some_iff.mp hx).1; omega
  refine hs i x ys[i] H _ hx (List.getElem?_eq_getElem hi) h.1 (fun H'' s => ?_)
  refine ⟨ys.take i, s _ _ h.2, size_lt (by simp; omega), same_set (L2.Same.trans h.1 s) hD, ?_⟩
  rw [upd_same, List.take_add_one, List.getElem?_eq_getElem hi]; rfl
/-! ### two things of the same data -/
def FlatD (n : Nat) (d : PyData) : Prop := d.canLay0 = true ∧ d.depth ≤ n
theorem flat_all {n : Nat} : ∀ ds : List PyData, (∀ d ∈ ds, FlatD n d) → PyData.canLayAll0 ds = true ∧ PyData.depthAll ds ≤ n
  | [], _ => by simp [PyData.canLayAll0, PyData.depthAll]
  | d :: r, h => by
    have i := flat_all r fun x hx => h x (List.mem_cons_of_mem _ hx)
    have j := h d List.mem_cons_self
    unfold FlatD at j
    simp only [PyData.canLayAll0, PyData.depthAll, j.1, i.1, Bool.and_self, true_and]
    omega
theorem flat_list {n : Nat} {ds : List PyData} (h : ∀ d ∈ ds, FlatD n d) : FlatD (n + 1) (.list ds) := by
  have i := flat_all ds h
  exact ⟨by simp only [PyData.canLay0]; exact i.1, by simp only [PyData.depth]; omega⟩
theorem flat_tup {n : Nat} {ds : List PyData} (h : ∀ d ∈ ds, FlatD n d) : FlatD (n + 1) (.tuple ds) := by
  have i := flat_all ds h
  exact ⟨by simp only [PyData.canLay0]; exact i.1, by simp only [PyData.depth]; omega⟩
theorem flat_int (n : Nat) (i : Int) : FlatD n (.int i) := ⟨by simp [PyData.canLay0], by simp [PyData.depth]⟩
theorem flat_sh {n : Nat} {d : PyData} (h : FlatD n d) (hn : n ≤ 64 := by decide) : SeqAt.shaped d = true := by
  show (PyData.canLay0 d && decide (PyData.depth d ≤ 64)) = true
  rw [Bool.and_eq_true]
  exact ⟨h.1, decide_eq_true (Nat.le_trans h.2 hn)⟩
theorem op_eqS {X : Cx} (hu : X.A.units + 64 < cLine) : OpR X (compareOp .Eq) (fun x y H Q => ∃ d, Dp X.K H x d ∧ Dp X.K H y d ∧ SeqAt.shaped d = true ∧ Q (.bl true) H) := by
  intro pins s σ H x y v u Q I rx ry ⟨d, h1, h2, hs, k⟩
  refine op_eqD hu pins s σ H x y v u Q I rx ry ⟨d, d, h1, h2, hs, hs, ?_⟩
  rw [SeqAt.eqv_refl d (SeqAt.canLay_of_shaped hs)]; exact k
theorem op_neS {X : Cx} (hu : X.A.units + 64 < cLine) : OpR X (compareOp .NotEq) (fun x y H Q => ∃ d, Dp X.K H x d ∧ Dp X.K H y d ∧ SeqAt.shaped d = true ∧ Q (.bl false) H) := by
  intro pins s σ H x y v u Q I rx ry ⟨d, h1, h2, hs, k⟩
  refine op_neD hu pins s σ H x y v u Q I rx ry ⟨d, d, h1, h2, hs, hs, ?_⟩
  rw [SeqAt.eqv_refl d (SeqAt.canLay_of_shaped hs)]; exact k
/-- the only error's __init__: self.value = value -/
def spEI (C : Addr) : Sp := fun vs H Q _ => ∃ (a : Addr) (v : V), vs = [.ref a, v] ∧ H a = some (exo a C none) ∧ ∀ dx, H dx = none → dx ≠ a → Q .non (upd (upd H dx (exd dx [("value", v)])) a (exo a C (some dx)))
theorem ei_same {H : Hp} {a dx C : Addr} {fs : List (Str × V)} {o u : HO} (ha : H a = none) (hd : upd H a o dx = none) (ne : dx ≠ a) :
    Same H (upd (del (upd (upd (upd H a o) dx u) a (exo a C (some dx))) a) dx (.xd fs)) := fun b v e => by
  have n1 : b ≠ a := ne_of_none e ha
  have n2 : b ≠ dx := by
    intro z
    rw [z] at e
    rw [upd_ne ne] at hd
    rw [hd] at e
    cases e
  rw [upd_ne n2, del_ne n1, upd_ne n1, upd_ne n2, upd_ne n1]
  exact e
end Hx

set_option Elab.async false
set_option linter.all false
set_option maxRecDepth 100000
set_option maxHeartbeats 4000000
namespace Hx
open PySem PySem.Spec PyProof.Rows L2
/-! ### promises of defs under which no repr is under way -/
/-- as FnOk, for calls around which nothing is being written out -/
structure FnG (P : Program) (w : World) (K : PySem.W.Frag) (mg : Str → Option Value) (base : Heap) (k : Nat) (f : Addr) (fd : FuncData) (ps : List Str) (sp : Sp) : Prop where
  len : ∀ vs H Q E, sp vs H Q E → vs.length = ps.length
  run : ∀ (A : Around) (outer : List Env) (s : Shared) (H : Hp) (args : Args) (us : List Value) (vs : List V) (Q : VK) (E : XK), A.guards = some [] → Room k A → Env0 P w K mg base A outer s H → BindsTo s fd args (ps.zip us) → Vals vs us → sp vs H Q E →
    codeAny (model P w) A (.call (.ref f) args) (CR CX0 outer P w H s Q E) s
theorem FnG.mono {P : Program} {w : World} {K : PySem.W.Frag} {mg : Str → Option Value} {base : Heap} {j k : Nat} {f : Addr} {fd : FuncData} {ps : List Str} {sp : Sp} (F : FnG P w K mg base j f fd ps sp) (h : j ≤ k) : FnG P w K mg base k f fd ps sp :=
  ⟨F.len, fun A o s H a us vs Q E g r => F.run A o s H a us vs Q E g (r.mono h)⟩
theorem fnG {P : Program} {w : World} {K : PySem.W.Frag} {mg : Str → Option Value} {base : Heap} {x qual : Str} {st : Stmt} {f : Addr} {fd : FuncData} {N ps : List Str} {k : Nat} {sp : Sp} (F : Fun K x qual st f fd) (S : FnScope N ps (defScope st)) (len : ∀ vs H Q E, sp vs H Q E → vs.length = ps.length)
    (hbody : ∀ (cdv : Value) (A : Around) (outer : List Env) (s : Shared) (H : Hp) (vs : List V) (Q : VK) (E : XK), Room k (A.deeper (envOfC qual (defScope st) s.heap.objs.size f cdv)) → (A.deeper (envOfC qual (defScope st) s.heap.objs.size f cdv)).guards = some [] → sp vs H Q E →
      ∃ t, PSs (cxOf CX0 P w K mg base N qual (defScope st) f cdv A outer s H E).nox (defBody st) t ∧ t { nx := fun _ H' => Q .non H', rt := Q } (start N vs) H) : FnG P w K mg base (k + 1) f fd ps sp := by
  obtain ⟨oc, od, kV, doc, pm, an, cdv, ct, osl, rfl, lk, hcd⟩ := F.ex
  constructor
  · exact len
  intro A outer s H args us vs Q E hg hr e0 hb r hsp
  have old := fun b o e => (e0.bs b o e).1
  have KX := e0.mod.kin.keeps old
  have lim := e0.mod.nolimit.keeps old
  apply codeAny_call_function hr.depth (KX _ _ lk) rfl S.co S.gen rfl (PySem.W.codeRec_of KX hcd)
  apply hb
  apply wpAny_newFunctionEnv_cells S.kind
  · intro y hy
    exact (S.par y.1 (List.of_mem_zip hy).1).imp id fun q => ⟨q, PySem.W.cellsFrom_some _ _ _ (.inl q)⟩
  intro env he s1 x
  subst he
  refine ⟨lim.keeps x.toInCall.keep, codeAny_func ?_⟩
  obtain ⟨t, ht, hq⟩ := hbody cdv A outer s H vs Q E (hr.deeper _) hg hsp
  have I := inv_start (CX := CX0) (E := E) (base := base) S hr.hd e0 (len _ _ _ _ hsp) r x
  refine wpAny_mono (ht.nox.run [] s1 _ H _ I hq) (fun fl s' hs => ?_) fun e s' hs => hs
  match fl, hs with
  | .ret u, ⟨v, _, H', J, rv, q⟩ => exact ⟨v, H', J.os, J.bare, J.base, J.hok, rv, q⟩
  | .next, ⟨_, H', J, q⟩ => exact ⟨V.non, H', J.os, J.bare, J.base, J.hok, rfl, q⟩
  | .brk, ⟨_, _, _, q⟩ => exact q.elim
  | .cont, ⟨_, _, _, q⟩ => exact q.elim
section
variable {X : Cx} {k : Nat} {f : Addr} {fd : FuncData} {ps : List Str} {sp : Sp} {E : XK} {x : Str} {p pos : Pos} {e : Expr} {es : List Expr} {t : TA}
/-- f(e, ..) of such a def -/
theorem pe_callG (hu : X.A.guards = some []) (F : FnG X.prog X.w X.K X.mg X.base k f fd ps sp) (hr : Room k X.A) (hg : Gl X x) (hm : X.mg x = some (.ref f)) (hk : PySem.W.keepIn X.K (.ref f) = true) (hb : Binds X.K fd ps [])
    (ha : PA X (e :: es) t) (hdb : (x == ("__debug__" : Str)) = false := by decide) (he : starEach (e :: es) X.env = (false, eval e X.env) :: starEach es X.env := by rfl) (hpl : (backTo pos (starEach es X.env)).any (·.1) = false := by rfl) :
    PE X (.Call (.Name x p) (e :: es) [] pos) (tCall sp [] E t) := by
  constructor
  intro pins s σ H Q I h
  apply wpAny_Call_Name_kw (ld_glob I hg hm ?_ hdb)
  refine PySem.W.callWith_K (h₀ := X.base) I.ok.mod.kin hk (thn (ha.run pos pins s σ H _ I h) fun us s1 ⟨vs, H1, I1, r, q⟩ => ⟨I1.kIn, ?_⟩) he hpl
  have q : sp (vs ++ []) H1 Q E := q
  rw [List.append_nil] at q
  have hl : us.length = ps.length := by rw [← r.length]; exact F.len _ _ _ _ q
  have b := hb s1 us I1.kIn (by rw [List.append_nil]; exact hl)
  rw [List.append_nil] at b
  refine wpAny_call (codeAny_mono (F.run X.A X.stack s1 H1 ⟨us, []⟩ us vs Q E hu hr I1.env0 b r q) fun r s' hq => ?_)
  match r, hq with
  | .ok (.ret u), hq => exact I1.after hq
  | .error e, hq => exact False.elim hq
  | .ok .next, hq => exact False.elim hq
  | .ok .brk, hq => exact False.elim hq
  | .ok .cont, hq => exact False.elim hq
/-- repr of a list, a tuple, of things that show -/
theorem call_reprG (hg : X.A.guards = some []) (hr : Room 0 X.A) : CallR X (.builtin "repr") (fun xs H Q => ∃ (a : Addr) (d : PyData), xs = [.ref a] ∧ Dp X.K H (.ref a) d ∧ d.showable = true ∧ d.hasDict = false ∧ d.depth ≤ 64 ∧ d.shown.length ≤ sizeLine ∧ Q (.str d.shown) H) := by
  intro pins s σ H xs us Q I r h
  obtain ⟨a, d, rfl, hd, hs, hn, hp, hz, q⟩ := h
  rw [Vals.ref1 r]
  obtain ⟨as, hR⟩ := Dp.reads I d _ (.ref a) hd rfl
  have hu := hr.un
  exact repr_of_reads' hR hs (fun z => by rw [hn] at z; cases z) hg (by omega) (fun _ _ e => e) (fun h' u tk hk => ⟨.str _, H, I.kept hk, ⟨_, rfl⟩, q⟩) hz
end
theorem call_repr_bl {X : Cx} : CallR X (.builtin "repr") (fun xs H Q => ∃ b : Bool, xs = [.bl b] ∧ Q (.str (if b then "True" else "False")) H) := by
  intro pins s σ H xs us Q I r h
  obtain ⟨b, rfl, q⟩ := h
  cases r with
  | cons ru rn =>
    cases rn
    cases ru
    exact PySem.P.repr_of_bool ⟨.str _, H, I.tok _, ⟨_, rfl⟩, q⟩
/-! ### the head's call of such a law -/
theorem law_callG {P : Program} {w : World} {K : PySem.W.Frag} {mg mb : Str → Option Value} {k : Nat} {fa a : Addr} {fd : FuncData} {x : Str} {sp : Sp} {s : Shared} {vs : List Value} {ns : List Int}
    (KX : K.In s.heap) (hns : s.heap.Ns mainGlobals mg) (hb : s.heap.Ns builtinsNs mb) (hbb : ∀ x : Str, x ≠ "__name__" → mb x = bootBuiltins x) (hlim : s.heap.NoLimit) (hg : s.gens = #[])
    (ha : s.heap.get? a = some { cls := .type "list", data := .seq vs.toArray }) (hi : IntsAre vs ns) (hl : ns.length ≤ sizeLine) (hr : Room k callerA)
    (F : ∀ base : Heap, K.In base → base.Ns mainGlobals mg → FnG P w K mg base k fa fd [x] sp) (hbind : ∀ (s : Shared) (u : Value), BindsTo s fd ⟨[u], []⟩ [(x, u)])
    (hsp : ∀ H : Hp, Only H → SqL K H a (ns.map V.int) → sp [.ref a] H (fun v _ => v = .bl true) fun _ _ _ => False) :
    codeAny (model P w) callerA (.call (.ref fa) ⟨[.ref a], []⟩) (fun r s' => r = .ok (.ret (.bool true)) ∧ OldK s.heap s'.heap ∧ s'.os = s.os ∧ AllBare s'.gens) s := by
  let fz : HO := .frz { cls := .type "list", data := .seq vs.toArray } (.lst (ns.map V.int))
  let H : Hp := fun b => if b = a ∧ K.lookup a = none then some fz else none
  have rv := vals_ints hi
  have hH : ∀ {b : Addr} {u : HO}, H b = some u → b = a ∧ K.lookup a = none ∧ u = fz := fun {b u} z => by
    by_cases q : b = a ∧ K.lookup a = none
    · have z' := (if_pos q).symm.trans z
      exact ⟨q.1, q.2, (Option.some.inj z').symm⟩
    · have z' := (if_neg q).symm.trans z
      cases z'
  have hO : Only H := fun b => by
    by_cases q : b = a ∧ K.lookup a = none
    · exact .inr ⟨_, _, if_pos q⟩
    · exact .inl (if_neg q)
  have hok : HOk P w H s.heap := fun b u z => by
    obtain ⟨rfl, _, rfl⟩ := hH z
    exact ⟨ha, by rw [List.length_map]; exact hl, vs, _, rv, ha⟩
  have hS : SqL K H a (ns.map V.int) := by
    cases hk : K.lookup a with
    | some o =>
      have e := KX a o hk
      rw [ha] at e
      cases e
      exact .inr ⟨_, vs.toArray, _, hk, rfl, rfl, rfl, by rw [List.size_toArray, hi.length]; exact hl, by simpa using rv⟩
    | none => exact .inl (.inr ⟨_, if_pos ⟨rfl, hk⟩⟩)
  have hid : ∀ {b : Addr} {o : Obj}, s.heap.get? b = some o → (b = a → K.lookup a = none → False) → (hidT s.heap H).get? b = some o := fun {b o} e n => hidT_get e (by
    cases q : H b with
    | none => rfl
    | some u => exact (n (hH q).1 (hH q).2.1).elim)
  have nsK : ∀ {b : Addr} {m : Str → Option Value}, s.heap.Ns b m → (hidT s.heap H).Ns b m := fun {b m} ⟨o, es, ep, e, d, r⟩ => ⟨o, es, ep, hid e (fun z _ => by
    subst z
    rw [ha] at e
    cases e
    have d' : Data.seq vs.toArray _ = Data.dict es ep := d
    cases d'), d, r⟩
  have hKb : K.In (hidT s.heap H) := fun b o e => hid (KX b o e) fun z n => by
    subst z
    rw [n] at e
    cases e
  have e0 : Env0 P w K mg (hidT s.heap H) callerA [] s H := ⟨rfl, ⟨hKb, nsK hns, ⟨mb, nsK hb, hbb⟩, hlim.elim fun mc h => ⟨mc, nsK h.1, h.2⟩⟩, fun b o e => of_hidT e, Nat.le_of_eq (hidT_size _ _), trivial, fun b hb => absurd hb List.not_mem_nil, hok, .of_eq hg⟩
  refine codeAny_mono ((F _ hKb (nsK hns)).run callerA [] s H ⟨[.ref a], []⟩ [.ref a] [.ref a] _ _ rfl hr e0 (hbind s (.ref a)) (.cons rfl .nil) (hsp H hO hS)) fun r s' h => ?_
  match r, h with
  | .error e, h => exact h.elim
  | .ok .next, h => exact False.elim h
  | .ok .brk, h => exact False.elim h
  | .ok .cont, h => exact False.elim h
  | .ok (.ret u), ⟨v, H', os, bare, un, hok', r', q⟩ =>
    obtain rfl : v = .bl true := q
    obtain rfl : u = Value.bool true := r'
    refine ⟨rfl, OldK.of_keep fun b o e => ?_, os, bare⟩
    cases q : H b with
    | none => exact un.keep b o e q (fun z => List.not_mem_nil z) List.not_mem_nil
    | some u =>
      obtain ⟨rfl, _, rfl⟩ := hH q
      obtain ⟨e1, _⟩ := hok _ _ q
      obtain ⟨e2, _⟩ := hok' _ _ (un.frzs _ _ _ q)
      rw [e] at e1
      cases e1
      exact e2
theorem walk_ofG {l : PySem.W.OpenLaw} {n k : Nat} {q : Program} {loose : List Str} {XP : (Str → Option Value) → Heap → Prop} {YP : World → Heap → Prop} {d : DefRec} {K : Params → PySem.W.Frag} {sp : World → Sp} {x : Str}
    (hn : l.most = some n) (hn2 : n ≤ sizeLine) (hdf : d.params.defaults = []) (hr : Room k callerA)
    (hY : ∀ (w : World) (h : Heap), YP w h → (K w.params).In h)
    (F : ∀ (w : World) (mg : Str → Option Value) (fa : Addr) (h : Heap), (K w.params).In h → h.Ns mainGlobals mg → mg d.name = some (.ref fa) →
      ∃ fd : FuncData, (∀ (s : Shared) (u : Value), BindsTo s fd ⟨[u], []⟩ [(x, u)]) ∧ ∀ base : Heap, (K w.params).In base → base.Ns mainGlobals mg → FnG l.prog w (K w.params) mg base k fa fd [x] (sp w))
    (hsp : ∀ (w : World) (H : Hp) (a : Addr) (ns : List Int), ns.length ≤ n → Only H → SqL (K w.params) H a (ns.map V.int) → sp w [.ref a] H (fun v _ => v = .bl true) fun _ _ _ => False) :
    PySem.W.WalkO q loose XP YP l.row.toRowW d [] (fun f vs => PySem.call f vs) := by
  apply Att.attach_call hn hdf
  intro w s₀ s₁ mg mb fa o pm cd doc a vs ns G Y ho hd hcd hmg hobj hints hlen hg
  obtain ⟨fd, hb, hF⟩ := F w mg fa _ (hY w _ Y) G.T.g hmg
  exact law_callG (hY w _ Y) G.T.g G.T.b G.T.builtins G.T.nolimit hg hobj hints (Nat.le_trans hlen hn2) hr hF hb fun H hO hS => hsp w H a ns hlen hO hS
end Hx

set_option Elab.async false
set_option linter.all false
set_option maxRecDepth 100000
set_option maxHeartbeats 4000000
namespace Hx
open PySem PySem.Spec PyProof.Rows L2
/-- x == y by the class's own ==, whatever it answers -/
theorem op_eqOwn {X : Cx} {n : Nat} {C f : Addr} {fd : FuncData} {ps : List Str} {sp : Sp} (F : FnOk X.prog X.w X.K X.mg X.base CX0 n f fd ps sp) (hr : Room n X.A)
    (hs : PySem.W.findIn X.K (.ref C) "__eq__" = some (some (.ref f))) (hf : PySem.W.isFn X.K (.ref f) = true) (hb : Binds X.K fd ps []) :
    OpR X (compareOp .Eq) (fun x y H Q => ∃ a b dx dy fs gs, x = .ref a ∧ y = .ref b ∧ H a = some (.ins C dx fs) ∧ H b = some (.ins C dy gs) ∧ sp [.ref a, .ref b] H (fun v H' => ∃ c, v = .bl c ∧ Q (.bl c) H') (fun _ _ _ => False)) := by
  intro pins s σ H x y v u Q I rx ry h
  obtain ⟨a, b, dx, dy, fs, gs, rfl, rfl, ha, hb', hsp⟩ := h
  cases rx
  cases ry
  obtain ⟨mA, J, _⟩ := ins_get I.hok ha
  obtain ⟨mB, J', _⟩ := ins_get I.hok hb'
  obtain ⟨od, J, _⟩ := J.look
  obtain ⟨od', J', _⟩ := J'.look
  obtain ⟨m, hF⟩ := I.fr
  have hu := hr.un
  refine PySem.W.cmp_K (op := .Eq) (tb := .ref C) (by omega) hF I.ok.mod.kin J J'.type (by simp [PySem.W.notFirst]) hs hf ?_
  have hl := F.len _ _ _ _ hsp
  have r2 : Vals [V.ref a, V.ref b] [Value.ref a, Value.ref b] := .cons rfl (.cons rfl .nil)
  have hB : BindsTo s fd ⟨[.ref a, .ref b], []⟩ (ps.zip [.ref a, .ref b]) := by
    have := hb s [.ref a, .ref b] I.kIn (by simpa using hl)
    simpa using this
  refine wpAny_call (codeAny_mono (F.run X.A X.stack s H ⟨[.ref a, .ref b], []⟩ [.ref a, .ref b] [.ref a, .ref b] _ _ hr I.env0 hB r2 hsp) fun r s' hq => ?_)
  match r, hq with
  | .ok (.ret w), hq =>
    obtain ⟨z, H', I', rz, c, rfl, q⟩ := I.after hq
    cases rz
    exact ⟨.bl c, H', I', rfl, q⟩
  | .error e, hq => exact False.elim hq
  | .ok .next, hq => exact False.elim hq
  | .ok .brk, hq => exact False.elim hq
  | .ok .cont, hq => exact False.elim hq
/-! ### how long the text of whole numbers is -/
theorem text_le : ∀ (ts : List Str) (k : Nat) (acc : Str), (textFrom k acc ts).length ≤ acc.length + piled ts
  | [], _, acc => Nat.le_add_right _ _
  | t :: r, k, acc => by
    have ih := text_le r (k + 1) (acc ++ (if k > 0 then ", " else "" : String) ++ t)
    have e : (acc ++ (if k > 0 then ", " else "" : String) ++ t).length ≤ acc.length + 2 + t.length := by
      rw [strLen_append, strLen_append]
      split
      · exact Nat.le_refl _
      · exact Nat.add_le_add_right (Nat.add_le_add_left (Nat.zero_le 2) _) _
    show (textFrom (k + 1) _ r).length ≤ _
    rw [piled_cons]; omega
theorem piled_words : ∀ ns : List Int, (∀ n ∈ ns, 0 ≤ n ∧ n < 10 ^ 20) → piled (PyData.shownAll (ns.map PyData.int)) ≤ 22 * ns.length
  | [], _ => Nat.le_refl _
  | n :: r, h => by
    have i := piled_words r fun x hx => h x (List.mem_cons_of_mem _ hx)
    have j := toString_length_le (h n List.mem_cons_self).1 (by decide : 0 < 20) (h n List.mem_cons_self).2
    rw [List.map_cons, PyData.shownAll, piled_cons, PyData.shown, List.length_cons]
    omega
theorem words_dict : ∀ ns : List Int, PyData.hasDictAll (ns.map PyData.int) = false
  | [] => rfl
  | n :: r => by rw [List.map_cons, PyData.hasDictAll, PyData.hasDict, words_dict r] <;> rfl
theorem log_small {n : Int} (h : 0 ≤ n ∧ n < 10 ^ 20) : n.natAbs.log2 < 1920 := by
  by_cases z : n.natAbs = 0
  · rw [z]; decide
  · refine Nat.lt_trans (m := 67) ?_ (by decide)
    rw [Nat.log2_lt z]
    omega
theorem words_show : ∀ ns : List Int, (∀ n ∈ ns, 0 ≤ n ∧ n < 10 ^ 20) → PyData.showableAll (ns.map PyData.int) = true
  | [], _ => rfl
  | n :: r, h => by
    rw [List.map_cons, PyData.showableAll, PyData.showable, words_show r fun x hx => h x (List.mem_cons_of_mem _ hx), decide_eq_true (log_small (h n List.mem_cons_self))] <;> rfl
theorem words_depth : ∀ ns : List Int, PyData.depthAll (ns.map PyData.int) = 0
  | [] => by simp [PyData.depthAll]
  | n :: r => by simp [PyData.depthAll, PyData.depth, words_depth r]
/-- a list of words: all that repr asks -/
theorem shown_words {ns : List Int} (h : ∀ n ∈ ns, 0 ≤ n ∧ n < 10 ^ 20) (hl : ns.length ≤ 400) : (PyData.list (ns.map PyData.int)).showable = true ∧ (PyData.list (ns.map PyData.int)).hasDict = false ∧ (PyData.list (ns.map PyData.int)).depth ≤ 64 ∧ (PyData.list (ns.map PyData.int)).shown.length ≤ sizeLine := by
  refine ⟨by rw [PyData.showable]; exact words_show ns h, by rw [PyData.hasDict]; exact words_dict ns, by rw [PyData.depth, words_depth]; decide, ?_⟩
  rw [PyData.shown]
  have a := text_le (PyData.shownAll (ns.map PyData.int)) 0 "["
  have b := piled_words ns h
  show (textFrom 0 "[" _ ++ "]").length ≤ _
  rw [strLen_append, sizeLine_eq]
  have e : (("[" : String) : Str).length = 1 := rfl
  have e2 : (("]" : String) : Str).length = 1 := rfl
  rw [e] at a
  rw [e2]
  omega
/-! ### o.m(b=.., a=..) of two, in the other sequence -/
def kwR {α : Type} (us ws : List α) : List α := match us, ws with | [x], [b, a] => [x, a, b] | _, _ => []
theorem kw_bindsR {K : PySem.W.Frag} {x qual : Str} {st : Stmt} {f : Addr} {fd : FuncData} {ps : List Str} {p0 p1 p2 : Str} (F : Fun K x qual st f fd) (hp : ps = [p0, p1, p2])
    (h : ∀ (kV doc pm : Value) (an : Option Addr) (cdv ct : Value) (u a b : Value), bindArgs (PySem.W.fnOf x qual (defArgs st) (defBody st) (defScope st) .none kV doc pm an cdv ct) ⟨[u], [(p2, b), (p1, a)]⟩ = pure [(p0, u), (p1, a), (p2, b)]) : KBinds K fd ps [p2, p1] kwR kwR := by
  obtain ⟨oc, od, kV, doc, pm, an, cdv, ct, osl, rfl, lk, hcd⟩ := F.ex
  subst hp
  refine ⟨fun s us ws _ hl => ?_, fun {vs us zs ws} r1 r2 => ?_⟩
  · match us, ws, hl with
    | [u], [b, a], _ => exact .of_eq (h kV doc pm an cdv ct u a b)
    | [], _, hl => simp [kwR] at hl
    | [_], [], hl => simp [kwR] at hl
    | [_], [_], hl => simp [kwR] at hl
    | [_], _ :: _ :: _ :: _, hl => simp [kwR] at hl
    | _ :: _ :: _, _, hl => simp [kwR] at hl
  · cases r1 with
    | nil => exact .nil
    | cons a t =>
      cases t with
      | cons b t => exact .nil
      | nil =>
        cases r2 with
        | nil => exact .nil
        | cons b r2 =>
          cases r2 with
          | nil => exact .nil
          | cons c r2 =>
            cases r2 with
            | nil => exact .cons a (.cons c (.cons b .nil))
            | cons _ _ => exact .nil
/-! ### a list of ints beside the empty one -/
theorem eqv_nil (ns : List Int) : PyData.eqv (.list (ns.map PyData.int)) (.list []) = ns.isEmpty := by
  cases ns with
  | nil => exact eqv_ints []
  | cons a r => simp [PyData.eqv, PyData.eqvAll]
theorem op_neNil {X : Cx} (hu : X.A.units + 64 < cLine) : OpR X (compareOp .NotEq) (fun x y H Q => ∃ (p q : Addr) (ns : List Int), x = .ref p ∧ y = .ref q ∧ SqL X.K H p (ns.map V.int) ∧ SqL X.K H q [] ∧ Q (.bl (!ns.isEmpty)) H) := by
  intro pins s σ H x y v u Q I rx ry ⟨p, q, ns, e1, e2, h1, h2, k⟩
  refine op_neD hu pins s σ H x y v u Q I rx ry ⟨.list (ns.map PyData.int), .list [], ?_, ?_, ?_, ?_, ?_⟩
  · rw [e1]; exact .lst h1 (dp_ints ns)
  · rw [e2]; exact .lst h2 .nil
  · exact sh_ints ns
  · exact sh_ints []
  · rw [eqv_nil]; exact k
end Hx

set_option Elab.async false
set_option linter.all false
set_option maxRecDepth 100000
set_option maxHeartbeats 4000000
namespace Hx
open PySem PySem.Spec PyProof.Rows L2
/-! ### lists of pairs of ints; things of the same data in a grown heap -/
def rowD (r : Int × Int) : PyData := .tuple [.int r.1, .int r.2]
def rowsD (rs : List (Int × Int)) : PyData := .list (rs.map rowD)
theorem dp_rows {K : PySem.W.Frag} {H : Hp} : ∀ (ts : List Addr) (rs : List (Int × Int)), ts.length = rs.length → (∀ (i : Nat) (t : Addr) (r : Int × Int), ts[i]? = some t → rs[i]? = some r → H t = some (.tup [.int r.1, .int r.2])) → DpAll K H (ts.map V.ref) (rs.map rowD)
  | [], [], _, _ => .nil
  | t :: ts, r :: rs, hl, h => .cons (.tup (SqT.of (h 0 t r rfl rfl)) (.cons (.int _) (.cons (.int _) .nil))) (dp_rows ts rs (by simpa using hl) fun i t' r' h1 h2 => h (i + 1) t' r' (by simpa using h1) (by simpa using h2))
  | [], _ :: _, hl, _ => by simp at hl
  | _ :: _, [], hl, _ => by simp at hl
theorem rows_sh (rs : List (Int × Int)) : SeqAt.shaped (rowsD rs) = true := flat_sh (n := 2) (flat_list (n := 1) fun d hd => by
  obtain ⟨r, _, rfl⟩ := List.mem_map.mp hd
  exact flat_tup (n := 0) fun d hd => by
    simp at hd
    rcases hd with rfl | rfl <;> exact flat_int 0 _)
theorem sqt_same {K : PySem.W.Frag} {H H' : Hp} {a : Addr} {xs : List V} (s : Same H H') (h : SqT K H a xs) : SqT K H' a xs := h.elim (fun r => r.elim (fun e => .inl (.inl (s _ _ e))) (fun ⟨o, e⟩ => .inl (.inr ⟨o, s _ _ e⟩))) .inr
mutual
theorem dp_same {K : PySem.W.Frag} {H H' : Hp} (s : Same H H') : ∀ (d : PyData) (v : V), Dp K H v d → Dp K H' v d
  | .none, _, h => by cases h; exact .non
  | .bool b, _, h => by cases h; exact .bl b
  | .int i, _, h => by cases h; exact .int i
  | .str x, _, h => by cases h; exact .str x
  | .list ds, _, h => by cases h with | lst h1 h2 => exact .lst (L2.Same.seq s h1) (dpA_same s ds _ h2)
  | .tuple ds, _, h => by cases h with | tup h1 h2 => exact .tup (sqt_same s h1) (dpA_same s ds _ h2)
  | .dict _, _, h => by cases h
theorem dpA_same {K : PySem.W.Frag} {H H' : Hp} (s : Same H H') : ∀ (ds : List PyData) (vs : List V), DpAll K H vs ds → DpAll K H' vs ds
  | [], _, h => by cases h; exact .nil
  | d :: ds, _, h => by cases h with | cons h1 h2 => exact .cons (dp_same s d _ h1) (dpA_same s ds _ h2)
end
end Hx

set_option Elab.async false
set_option linter.all false
set_option maxRecDepth 100000
set_option maxHeartbeats 4000000
namespace Hx
open PySem PySem.Spec PyProof.Rows L2
/-! ### keywords in any sequence: n values by place, then those of the permutation -/
def kwP {α : Type} (n : Nat) (perm : List Nat) (us ws : List α) : List α := if us.length = n ∧ ws.length = perm.length then us ++ perm.filterMap (fun i => ws[i]?) else []
theorem vals_append {a b : List V} {x y : List Value} (h : Vals a x) (k : Vals b y) : Vals (a ++ b) (x ++ y) := by
  induction h with
  | nil => exact k
  | cons r t ih => exact .cons r ih
theorem vals_get {a : List V} {x : List Value} (h : Vals a x) : ∀ i : Nat, (∃ v u, a[i]? = some v ∧ x[i]? = some u ∧ RelV v u) ∨ (a[i]? = none ∧ x[i]? = none) := by
  induction h with
  | nil => exact fun i => .inr ⟨by simp, by simp⟩
  | cons r t ih =>
    intro i
    cases i with
    | zero => exact .inl ⟨_, _, rfl, rfl, r⟩
    | succ j => simpa using ih j
theorem vals_perm {a : List V} {x : List Value} (h : Vals a x) : ∀ perm : List Nat, Vals (perm.filterMap (fun i => a[i]?)) (perm.filterMap (fun i => x[i]?))
  | [] => .nil
  | i :: r => by
    have t := vals_perm h r
    rcases vals_get h i with ⟨v, u, e1, e2, q⟩ | ⟨e1, e2⟩
    · rw [List.filterMap_cons, List.filterMap_cons, e1, e2]; exact .cons q t
    · rw [List.filterMap_cons, List.filterMap_cons, e1, e2]; exact t
theorem vals_kwP {n : Nat} {perm : List Nat} {vs zs : List V} {us ws : List Value} (h : Vals vs us) (k : Vals zs ws) : Vals (kwP n perm vs zs) (kwP n perm us ws) := by
  unfold kwP
  rw [h.length, k.length]
  split
  · exact vals_append h (vals_perm k perm)
  · exact .nil
theorem kw_bindsP {K : PySem.W.Frag} {x qual : Str} {st : Stmt} {f : Addr} {fd : FuncData} {ps ks : List Str} {n : Nat} {perm : List Nat} (F : Fun K x qual st f fd) (h0 : 0 < ps.length)
    (h : ∀ (kV doc pm : Value) (an : Option Addr) (cdv ct : Value) (us ws : List Value), us.length = n → ws.length = perm.length → bindArgs (PySem.W.fnOf x qual (defArgs st) (defBody st) (defScope st) .none kV doc pm an cdv ct) ⟨us, ks.zip ws⟩ = pure (ps.zip (kwP n perm us ws))) : KBinds K fd ps ks (kwP n perm) (kwP n perm) := by
  obtain ⟨oc, od, kV, doc, pm, an, cdv, ct, osl, rfl, lk, hcd⟩ := F.ex
  refine ⟨fun s us ws _ hl => ?_, fun r1 r2 => vals_kwP r1 r2⟩
  by_cases q : us.length = n ∧ ws.length = perm.length
  · exact .of_eq (h kV doc pm an cdv ct us ws q.1 q.2)
  · unfold kwP at hl; rw [if_neg q] at hl; simp at hl; omega
theorem kw_bindsN {K : PySem.W.Frag} {x qual : Str} {st : Stmt} {f : Addr} {fd : FuncData} {ps ks : List Str} {n : Nat} {perm : List Nat} (F : Fun K x qual st f fd) (h0 : ks.length = perm.length)
    (h : ∀ (kV doc pm : Value) (an : Option Addr) (cdv ct : Value) (us ws : List Value), us.length = n → ws.length = perm.length → bindArgs (PySem.W.fnOf x qual (defArgs st) (defBody st) (defScope st) .none kV doc pm an cdv ct) ⟨us, ks.zip ws⟩ = pure (ps.zip (kwP n perm us ws))) : KBn K fd ps n ks (kwP n perm) (kwP n perm) := by
  obtain ⟨oc, od, kV, doc, pm, an, cdv, ct, osl, rfl, lk, hcd⟩ := F.ex
  exact ⟨fun s us ws _ l1 l2 => .of_eq (h kV doc pm an cdv ct us ws l1 (l2.trans h0)), fun r1 r2 => vals_kwP r1 r2⟩
/-! ### an own == beside a list -/
theorem op_eqOwnL {X : Cx} {n : Nat} {C f : Addr} {fd : FuncData} {ps : List Str} {sp : Sp} (F : FnOk X.prog X.w X.K X.mg X.base CX0 n f fd ps sp) (hr : Room n X.A)
    (hs : PySem.W.findIn X.K (.ref C) "__eq__" = some (some (.ref f))) (hf : PySem.W.isFn X.K (.ref f) = true) (hb : Binds X.K fd ps []) (hsl : PySem.W.subIn X.K (.type "list") (.ref C) = some false) :
    OpR X (compareOp .Eq) (fun x y H Q => ∃ a b dx fs xs, x = .ref a ∧ y = .ref b ∧ H a = some (.ins C dx fs) ∧ H b = some (.lst xs) ∧ sp [.ref a, .ref b] H (fun v H' => ∃ c, v = .bl c ∧ Q (.bl c) H') (fun _ _ _ => False)) := by
  intro pins s σ H x y v u Q I rx ry h
  obtain ⟨a, b, dx, fs, xs, rfl, rfl, ha, hb', hsp⟩ := h
  cases rx
  cases ry
  obtain ⟨mA, J, _⟩ := ins_get I.hok ha
  obtain ⟨od, J, _⟩ := J.look
  obtain ⟨_, _, nn, _, h1⟩ := (show ObjOk X.prog X.w H s.heap b (.lst xs) from I.hok b _ hb')
  obtain ⟨m, hF⟩ := I.fr
  have hu := hr.un
  refine PySem.W.cmp_K (op := .Eq) (tb := .type "list") (by omega) hF I.ok.mod.kin J (fun A Q E s k q => wpAny_typeOf_ref (k _ _ h1) q) (by simp [PySem.W.notFirst, hsl]) hs hf ?_
  have hl := F.len _ _ _ _ hsp
  have r2 : Vals [V.ref a, V.ref b] [Value.ref a, Value.ref b] := .cons rfl (.cons rfl .nil)
  have hB : BindsTo s fd ⟨[.ref a, .ref b], []⟩ (ps.zip [.ref a, .ref b]) := by
    have := hb s [.ref a, .ref b] I.kIn (by simpa using hl)
    simpa using this
  refine wpAny_call (codeAny_mono (F.run X.A X.stack s H ⟨[.ref a, .ref b], []⟩ [.ref a, .ref b] [.ref a, .ref b] _ _ hr I.env0 hB r2 hsp) fun r s' hq => ?_)
  match r, hq with
  | .ok (.ret w), hq =>
    obtain ⟨z, H', I', rz, c, rfl, q⟩ := I.after hq
    cases rz
    exact ⟨.bl c, H', I', rfl, q⟩
  | .error e, hq => exact False.elim hq
  | .ok .next, hq => exact False.elim hq
  | .ok .brk, hq => exact False.elim hq
  | .ok .cont, hq => exact False.elim hq
theorem kit_not {K : PySem.W.Frag} {C : Addr} (h1 : PySem.W.isClsIn K C = true) (h2 : PySem.W.typeIn K (.ref C) = some (.type "type")) (h3 : PySem.W.subIn K (.type "list") (.ref C) = some false) : PySem.W.kitOne K (.type "list") (.ref C) = some false := by
  have e : ((PySem.W.clsIn K C).isSome && PySem.W.typeIn K (.ref C) == some (.type "type")) = true := by
    have h1' : (PySem.W.clsIn K C).isSome = true := h1
    rw [h1', h2] <;> rfl
  show (if ((Value.type "list" == .ref C) = true) then some true else (if ((PySem.W.clsIn K C).isSome && PySem.W.typeIn K (.ref C) == some (.type "type")) = true then PySem.W.subIn K (.type "list") (.ref C) else none)) = some false
  rw [if_neg (by intro z; cases z), if_pos e]
  exact h3
/-! ### a comprehension that sifts -/
theorem lc_filt {α : Type} {K : PySem.W.Frag} {a : Addr} {g : TG} {tt : TT} {te : TE} {vs : List Nat} {σ : L2.St} {H1 : Hp} {D : Addr} {Qd : Hp → Prop} (zs : List α) (f : α → V) (t : α → Bool) (ha : SqL K H1 a (zs.map f)) (hD : H1 D = none) (hz : zs.length ≤ 10000)
    (hs : ∀ (i : Nat) (z : α) (H' : Hp) (Qn : Hp → Prop) (Qy : VK), zs[i]? = some z → Same H1 H' → (t z = false → ∀ H'', Same H' H'' → Qn H'') → (t z = true → ∀ H'', Same H' H'' → Qy (f z) H'') → g (f z) (wipe σ vs) H' fun σ2 H2 => wipe σ2 vs = wipe σ vs ∧ tt σ2 H2 fun b H3 => if b = true then te σ2 H3 Qy else Qn H3)
    (hd : ∀ H', Same H1 H' → H' D = some (.lst ((zs.filter t).map f)) → Qd H') :
    ∃ W : Nat → Nat → Hp → Prop, (∃ m, W 0 m (upd H1 D (.lst []))) ∧ ∀ i m H, W i m H →
      ((Itl K a).stop i H ∧ Qd H) ∨ ((Itl K a).go i H ∧ ∃ Nx : Hp → Prop, (∀ H', Nx H' → ∃ m', m' < m ∧ W (i + 1) m' H') ∧ ∀ x H', (Itl K a).yld i H x H' → g x (wipe σ vs) H' fun σ2 H2 => wipe σ2 vs = wipe σ vs ∧ tt σ2 H2 fun b H3 =>
        if b = true then te σ2 H3 fun y H4 => ∃ acc, H4 D = some (.lst acc) ∧ acc.length < sizeLine ∧ Nx (upd H4 D (.lst (acc ++ [y]))) else Nx H3) := by
  refine lc_list (xs := zs.map f) (fun i H => Same H1 H ∧ H D = some (.lst (((zs.take i).filter t).map f))) ⟨same_upd hD, upd_same⟩ (fun i H _ h => L2.Same.seq h.1 ha) (fun i x H hx h => ?_) (fun H h => hd H h.1 (by rw [h.2, List.length_map, List.take_length]))
  rw [List.getElem?_map] at hx
  obtain ⟨z, hz1, rfl⟩ := Option.map_eq_some_iff.mp hx
  have et : zs.take (i + 1) = zs.take i ++ [z] := by rw [List.take_add_one, hz1]; rfl
  refine hs i z H _ _ hz1 h.1 (fun tn H'' s => ?_) (fun ty H'' s => ?_)
  · refine ⟨L2.Same.trans h.1 s, ?_⟩
    rw [s _ _ h.2, et, List.filter_append, List.filter_cons_of_neg (by simp [tn]), List.filter_nil, List.append_nil]
  · refine ⟨((zs.take i).filter t).map f, s _ _ h.2, size_lt ?_, same_set (L2.Same.trans h.1 s) hD, ?_⟩
    · have := List.length_filter_le t (zs.take i)
      simp at this ⊢; omega
    · rw [upd_same, et, List.filter_append, List.filter_cons_of_pos ty, List.filter_nil, List.map_append]; rfl
/-! ### parts of a list -/
theorem cut_from (xs : List V) (k : Nat) : cutV xs (some (k : Int)) none = xs.drop k := by
  unfold cutV
  rw [HT.sIx_nat, HT.sIx_none, List.take_of_length_le (by rw [List.length_drop]; omega)]
  by_cases h : k ≤ xs.length
  · rw [Nat.min_eq_left h]
  · rw [Nat.min_eq_right (by omega), List.drop_length, List.drop_of_length_le (by omega)]
theorem cut_to (xs : List V) (k : Nat) : cutV xs none (some (k : Int)) = xs.take k := by
  unfold cutV
  rw [HT.sIx_nat, HT.sIx_none, List.drop_zero, Nat.sub_zero]
  by_cases h : k ≤ xs.length
  · rw [Nat.min_eq_left h]
  · rw [Nat.min_eq_right (by omega), List.take_length, List.take_of_length_le (by omega)]
/-! ### a list beside the empty one -/
theorem eqv_nilD (ds : List PyData) : PyData.eqv (.list ds) (.list []) = ds.isEmpty := by
  cases ds with
  | nil => rfl
  | cons a r => simp [PyData.eqv, PyData.eqvAll]
end Hx

set_option Elab.async false
set_option linter.all false
set_option maxRecDepth 100000
set_option maxHeartbeats 4000000
/-! HsSep: what is owned of a heap, as a list; a part of the heap that never changes; frames. -/
namespace L2
open PySem PySem.Spec PyProof.Rows
variable {K : PySem.W.Frag}
theorem DpAll.app' {M : Hp} : ∀ {vs us : List V} {ds es : List PyData}, DpAll K M vs ds → DpAll K M us es → DpAll K M (vs ++ us) (ds ++ es)
  | _, _, _, _, .nil, y => y
  | _, _, _, _, .cons x z, y => .cons x (DpAll.app' z y)
theorem DpAll.get {M : Hp} : ∀ {vs : List V} {ds : List PyData} {i : Nat} {v : V}, DpAll K M vs ds → vs[i]? = some v → ∃ d, ds[i]? = some d ∧ Dp K M v d
  | _, _, _, _, .nil, e => by simp at e
  | _, _, 0, _, .cons x _, e => by simp at e; subst e; exact ⟨_, rfl, x⟩
  | _, _, i + 1, v, .cons _ y, e => by
    obtain ⟨d, h1, h2⟩ := DpAll.get (i := i) (v := v) y (by simpa using e)
    exact ⟨d, by simpa using h1, h2⟩
theorem DpAll.get' {M : Hp} : ∀ {vs : List V} {ds : List PyData} {i : Nat} {v : V} {d : PyData}, DpAll K M vs ds → vs[i]? = some v → ds[i]? = some d → Dp K M v d := fun h e1 e2 => by
  obtain ⟨d', h1, h2⟩ := h.get e1
  rw [e2] at h1; cases h1; exact h2
theorem DpAll.len {M : Hp} : ∀ {vs : List V} {ds : List PyData}, DpAll K M vs ds → vs.length = ds.length
  | _, _, .nil => rfl
  | _, _, .cons _ y => by simp [DpAll.len y]
theorem DpAll.take {M : Hp} : ∀ {vs : List V} {ds : List PyData} (n : Nat), DpAll K M vs ds → DpAll K M (vs.take n) (ds.take n)
  | _, _, 0, _ => by simpa using DpAll.nil
  | _, _, _ + 1, .nil => by simpa using DpAll.nil
  | _, _, n + 1, .cons x y => by simpa using DpAll.cons x (DpAll.take n y)
theorem DpAll.drop {M : Hp} : ∀ {vs : List V} {ds : List PyData} (n : Nat), DpAll K M vs ds → DpAll K M (vs.drop n) (ds.drop n)
  | _, _, 0, h => by simpa using h
  | _, _, _ + 1, .nil => by simpa using DpAll.nil
  | _, _, n + 1, .cons _ y => by simpa using DpAll.drop n y
theorem DpAll.set {M : Hp} {v : V} {d : PyData} (x : Dp K M v d) : ∀ {vs : List V} {ds : List PyData} (n : Nat), DpAll K M vs ds → DpAll K M (vs.set n v) (ds.set n d)
  | _, _, _, .nil => by simpa using DpAll.nil
  | _, _, 0, .cons _ y => by simpa using DpAll.cons x y
  | _, _, n + 1, .cons z y => by simpa using DpAll.cons z (DpAll.set x n y)
theorem DpAll.erase {M : Hp} : ∀ {vs : List V} {ds : List PyData} (n : Nat), DpAll K M vs ds → DpAll K M (vs.eraseIdx n) (ds.eraseIdx n)
  | _, _, _, .nil => by simpa using DpAll.nil
  | _, _, 0, .cons _ y => by simpa using y
  | _, _, n + 1, .cons x y => by simpa using DpAll.cons x (DpAll.erase n y)
theorem DpAll.dropLast {M : Hp} {vs : List V} {ds : List PyData} (h : DpAll K M vs ds) : DpAll K M vs.dropLast ds.dropLast := by
  rw [List.dropLast_eq_take, List.dropLast_eq_take, h.len]; exact h.take _
theorem DpAll.rev {M : Hp} : ∀ {vs : List V} {ds : List PyData}, DpAll K M vs ds → DpAll K M vs.reverse ds.reverse
  | _, _, .nil => .nil
  | _, _, .cons x y => by rw [List.reverse_cons, List.reverse_cons]; exact DpAll.app' (DpAll.rev y) (.cons x .nil)
end L2
namespace Hx
open PySem PySem.Spec PyProof.Rows L2
/-- what stands at an owned address -/
inductive Ob where
  | raw (o : HO)
  | such (φ : HO → Prop)
  | L (ds : List PyData)
  | D (kds : List (Key × PyData))
/-- M: the part that never changes -/
def Hd (K : PySem.W.Frag) (M H : Hp) (a : Addr) : Ob → Prop
  | .raw o => H a = some o
  | .such φ => ∃ o, H a = some o ∧ φ o
  | .L ds => ∃ vs, H a = some (.lst vs) ∧ DpAll K M vs ds
  | .D kds => ∃ kvs : List (Key × V), H a = some (.dK kvs) ∧ kvs.map Prod.fst = kds.map Prod.fst ∧ DpAll K M (kvs.map Prod.snd) (kds.map Prod.snd)
/-- what is known of the part that never changes -/
inductive Pf where
  | tup (t : Addr) (vs : List V)
  | lst (t : Addr) (vs : List V)
  | dp (vs : List V) (ds : List PyData)
  | sq (t : Addr) (vs : List V)
def Pf.ok (K : PySem.W.Frag) (M : Hp) : Pf → Prop
  | .tup t vs => M t = some (.tup vs)
  | .lst t vs => M t = some (.lst vs)
  | .dp vs ds => DpAll K M vs ds
  | .sq t vs => SqT K M t vs
structure Own (K : PySem.W.Frag) (H : Hp) (L : List (Addr × Ob)) (P : List Pf) : Prop where
  ex : ∃ M : Hp, (L.map Prod.fst).Nodup ∧ (∀ p ∈ L, Hd K M H p.1 p.2 ∧ M p.1 = none) ∧ (∀ b u, M b = some u → H b = some u) ∧ ∀ q ∈ P, q.ok K M
theorem Pf.same {K : PySem.W.Frag} {M M' : Hp} (s : Same M M') : ∀ q : Pf, q.ok K M → q.ok K M'
  | .tup t vs, h => s _ _ h
  | .lst t vs, h => s _ _ h
  | .dp vs ds, h => dpA_same s _ _ h
  | .sq t vs, h => sqt_same s h
theorem Hd.some {K : PySem.W.Frag} {M H : Hp} {a : Addr} : ∀ {o : Ob}, Hd K M H a o → ∃ u, H a = Option.some u
  | .raw _, h => ⟨_, h⟩
  | .such _, ⟨_, h, _⟩ => ⟨_, h⟩
  | .L _, ⟨_, h, _⟩ => ⟨_, h⟩
  | .D _, ⟨_, h, _⟩ => ⟨_, h⟩
theorem Hd.same {K : PySem.W.Frag} {M M' H H' : Hp} {a : Addr} (s : Same M M') (e : H' a = H a) : ∀ {o : Ob}, Hd K M H a o → Hd K M' H' a o
  | .raw _, h => e.trans h
  | .such _, ⟨_, h, q⟩ => ⟨_, e.trans h, q⟩
  | .L _, ⟨_, h, q⟩ => ⟨_, e.trans h, dpA_same s _ _ q⟩
  | .D _, ⟨_, h, k, q⟩ => ⟨_, e.trans h, k, dpA_same s _ _ q⟩
variable {K : PySem.W.Frag} {H H1 M : Hp} {L L' R B : List (Addr × Ob)} {P P' : List Pf} {p a t : Addr} {o : HO} {ob : Ob} {vs us : List V} {ds es : List PyData}
theorem Own.new (h : Own K H L P) (f : H p = none) (e : upd H p o = H1) : Own K H1 ((p, .raw o) :: L) P := by
  subst e
  obtain ⟨M, nd, hl, hs, hp⟩ := h.ex
  have np : ∀ q ∈ L, q.1 ≠ p := fun q hq z => by obtain ⟨u, hu⟩ := (hl q hq).1.some; rw [z, f] at hu; cases hu
  have mp : M p = none := by
    cases e : M p with
    | none => rfl
    | some u => rw [hs _ _ e] at f; cases f
  refine ⟨M, ?_, fun q hq => ?_, fun b u hb => ?_, hp⟩
  · rw [List.map_cons, List.nodup_cons]
    exact ⟨fun z => by obtain ⟨q, hq, e⟩ := List.mem_map.mp z; exact np q hq e, nd⟩
  · rcases List.mem_cons.mp hq with rfl | hq
    · exact ⟨upd_same, mp⟩
    · exact ⟨(hl q hq).1.same (L2.Same.refl _) (upd_ne (np q hq)), (hl q hq).2⟩
  · rw [upd_ne (fun z => by rw [z, mp] at hb; cases hb)]; exact hs _ _ hb
/-- a new thing that never changes -/
theorem Own.newM (h : Own K H L P) (f : H p = none) (e : upd H p o = H1) {q : Pf} (hq : ∀ M : Hp, M p = some o → q.ok K M) : Own K H1 L (q :: P) := by
  subst e
  obtain ⟨M, nd, hl, hs, hp⟩ := h.ex
  have np : ∀ q ∈ L, q.1 ≠ p := fun q hq z => by obtain ⟨u, hu⟩ := (hl q hq).1.some; rw [z, f] at hu; cases hu
  have mp : M p = none := by
    cases e : M p with
    | none => rfl
    | some u => rw [hs _ _ e] at f; cases f
  have sm : Same M (upd M p o) := same_upd mp
  refine ⟨upd M p o, nd, fun q hq => ⟨(hl q hq).1.same sm (upd_ne (np q hq)), by rw [upd_ne (np q hq)]; exact (hl q hq).2⟩, fun b u hb => ?_, fun r hr => ?_⟩
  · by_cases z : b = p
    · subst z; rw [upd_same] at hb ⊢; exact hb
    · rw [upd_ne z] at hb ⊢; exact hs _ _ hb
  · rcases List.mem_cons.mp hr with rfl | hr
    · exact hq _ upd_same
    · exact r.same sm (hp r hr)
theorem Own.newT (h : Own K H L P) (f : H p = none) (e : upd H p (.tup vs) = H1) : Own K H1 L (.tup p vs :: P) := h.newM f e fun _ z => z
theorem Own.newP (h : Own K H L P) (f : H p = none) (e : upd H p (.lst vs) = H1) : Own K H1 L (.lst p vs :: P) := h.newM f e fun _ z => z
inductive At : List (Addr × Ob) → Addr → Ob → List (Addr × Ob) → Prop
  | head {a : Addr} {o o' : Ob} {t : List (Addr × Ob)} : At ((a, o) :: t) a o' ((a, o') :: t)
  | tail {a : Addr} {o' : Ob} {p : Addr × Ob} {t t' : List (Addr × Ob)} : At t a o' t' → At (p :: t) a o' (p :: t')
  | app {a : Addr} {o' : Ob} {A t t' : List (Addr × Ob)} : At t a o' t' → At (A ++ t) a o' (A ++ t')
theorem At.parts {L L' : List (Addr × Ob)} {a : Addr} {o' : Ob} (h : At L a o' L') : ∃ x o y, L = x ++ (a, o) :: y ∧ L' = x ++ (a, o') :: y := by
  induction h with
  | head => exact ⟨[], _, _, rfl, rfl⟩
  | tail _ ih => obtain ⟨x, o, y, e1, e2⟩ := ih; exact ⟨_ :: x, o, y, by rw [e1]; rfl, by rw [e2]; rfl⟩
  | @app _ _ A _ _ _ ih => obtain ⟨x, o, y, e1, e2⟩ := ih; exact ⟨A ++ x, o, y, by rw [e1, List.append_assoc], by rw [e2, List.append_assoc]⟩
theorem Own.setU (h : Own K H L P) (m : At L a ob L') (e : upd H a o = H1) (hd : ∀ M : Hp, (∀ q ∈ P, q.ok K M) → (∀ o0, (a, o0) ∈ L → Hd K M H a o0) → Hd K M (upd H a o) a ob) : Own K H1 L' P := by
  subst e
  obtain ⟨M, nd, hl, hs, hp⟩ := h.ex
  obtain ⟨x, o0, y, rfl, rfl⟩ := m.parts
  have ma : M a = none := (hl (a, o0) (by simp)).2
  have nd' := nd
  rw [List.map_append, List.map_cons, List.nodup_append, List.nodup_cons] at nd'
  have na : ∀ q, (q ∈ x ∨ q ∈ y) → q.1 ≠ a := fun q hq z => by
    rcases hq with hq | hq
    · exact nd'.2.2 q.1 (List.mem_map_of_mem hq) a List.mem_cons_self z
    · exact nd'.2.1.1 (List.mem_map.mpr ⟨q, hq, z⟩)
  refine ⟨M, by rw [List.map_append, List.map_cons] at nd ⊢; exact nd, fun q hq => ?_, fun b u hb => ?_, hp⟩
  · have old : (q ∈ x ∨ q ∈ y) → Hd K M (upd H a o) q.1 q.2 ∧ M q.1 = none := fun z => by
      have := hl q (by rcases z with z | z <;> simp [z])
      exact ⟨this.1.same (L2.Same.refl _) (upd_ne (na q z)), this.2⟩
    rcases List.mem_append.mp hq with hq | hq
    · exact old (.inl hq)
    · rcases List.mem_cons.mp hq with rfl | hq
      · exact ⟨hd M hp fun o1 m1 => (hl _ m1).1, ma⟩
      · exact old (.inr hq)
  · rw [upd_ne (fun z => by rw [z, ma] at hb; cases hb)]; exact hs _ _ hb
theorem Own.setO (h : Own K H L P) (m : At L a ob L') (e : upd H a o = H1) (hd : ∀ M : Hp, (∀ q ∈ P, q.ok K M) → Hd K M (upd H a o) a ob) : Own K H1 L' P := h.setU m e fun M q _ => hd M q
theorem Own.set (h : Own K H L P) (m : At L a (.raw o) L') (e : upd H a o = H1) : Own K H1 L' P := h.setO m e fun _ _ => upd_same
/-- the same, by a name that a walker sees -/
def updX (H : Hp) (a : Addr) (o : HO) : Hp := upd H a o
theorem upd_mk (H : Hp) (a : Addr) (o : HO) : upd H a o = updX H a o := rfl
theorem upd_mkO (h : Own K H L P) (a : Addr) (o : HO) : upd H a o = updX H a o := rfl
theorem Own.cset {G : Prop} (h : Own K H L P) (e : updX H a o = H1) (m : At L a (.raw o) L') (k : Own K H1 L' P → G) : G := k (h.set m e)
theorem Own.cnewT {G : Prop} (h : Own K H L P) (e : updX H p (.tup vs) = H1) (f : H p = none) (k : Own K H1 L (.tup p vs :: P) → G) : G := k (h.newT f e)
theorem Own.cnew {G : Prop} (h : Own K H L P) (e : updX H p o = H1) (f : H p = none) (k : Own K H1 ((p, .raw o) :: L) P → G) : G := k (h.new f e)
theorem Own.make {C dx x : Addr} (h : Own K H L P) (f1 : H x = none) (f2 : H dx = none) (f3 : dx ≠ x) (e : upd (updX H dx (.own x)) x (.ins C dx []) = H1) : Own K H1 ((x, .raw (.ins C dx [])) :: L) P := by
  have h1 := h.new f2 (o := .own x) rfl
  have h2 := h1.new (p := x) (o := .ins C dx []) (by rw [upd_ne (Ne.symm f3)]; exact f1) e
  obtain ⟨M, nd, hl, hs, hp⟩ := h2.ex
  refine ⟨M, ?_, fun p hp' => hl p ?_, hs, hp⟩
  · simp only [List.map_cons, List.nodup_cons, List.mem_cons, not_or] at nd ⊢
    exact ⟨nd.1.2, nd.2.2⟩
  · rcases List.mem_cons.mp hp' with rfl | z
    · exact List.mem_cons_self
    · exact List.mem_cons_of_mem _ (List.mem_cons_of_mem _ z)
theorem Own.cmake {G : Prop} {C dx x : Addr} (h : Own K H L P) (f1 : H x = none) (f2 : H dx = none) (f3 : dx ≠ x) (e : upd (updX H dx (.own x)) x (.ins C dx []) = H1) (k : Own K H1 ((x, .raw (.ins C dx [])) :: L) P → G) : G := k (h.make f1 f2 f3 e)
theorem Own.raw (h : Own K H L P) (m : (a, Ob.raw o) ∈ L) : H a = some o := by
  obtain ⟨M, nd, hl, hs, hp⟩ := h.ex
  exact (hl _ m).1
theorem Own.ptup (h : Own K H L P) (m : Pf.tup t vs ∈ P) : H t = some (.tup vs) := by
  obtain ⟨M, nd, hl, hs, hp⟩ := h.ex
  exact hs _ _ (hp _ m)
theorem Own.plst (h : Own K H L P) (m : Pf.lst t vs ∈ P) : H t = some (.lst vs) := by
  obtain ⟨M, nd, hl, hs, hp⟩ := h.ex
  exact hs _ _ (hp _ m)
theorem Own.pdp (h : Own K H L P) (m : Pf.dp vs ds ∈ P) : DpAll K H vs ds := by
  obtain ⟨M, nd, hl, hs, hp⟩ := h.ex
  exact dpA_same hs _ _ (hp _ m)
theorem Own.psq (h : Own K H L P) (m : Pf.sq t vs ∈ P) : SqT K H t vs := by
  obtain ⟨M, nd, hl, hs, hp⟩ := h.ex
  exact sqt_same hs (hp _ m)
theorem Own.lst (h : Own K H L P) (m : (a, Ob.L ds) ∈ L) : ∃ vs, H a = some (.lst vs) ∧ DpAll K H vs ds := by
  obtain ⟨M, nd, hl, hs, hp⟩ := h.ex
  obtain ⟨vs, e, q⟩ := (hl _ m).1
  exact ⟨vs, e, dpA_same hs _ _ q⟩
/-- entries by other words of the same heap -/
theorem Own.re (h : Own K H L P) (m : At L a ob L') {P' : List Pf} (f : ∀ M : Hp, (∀ q ∈ P, q.ok K M) → (∀ b u, M b = some u → H b = some u) → (∀ o0, (a, o0) ∈ L → Hd K M H a o0) → Hd K M H a ob ∧ ∀ q ∈ P', q.ok K M) : Own K H L' P' := by
  obtain ⟨M, nd, hl, hs, hp⟩ := h.ex
  obtain ⟨x, o0, y, rfl, rfl⟩ := m.parts
  obtain ⟨g1, g2⟩ := f M hp hs fun o0 m => (hl _ m).1
  refine ⟨M, by rw [List.map_append, List.map_cons] at nd ⊢; exact nd, fun q hq => ?_, hs, g2⟩
  rcases List.mem_append.mp hq with z | z
  · exact hl q (List.mem_append.mpr (.inl z))
  · rcases List.mem_cons.mp z with rfl | z
    · exact ⟨g1, (hl (a, o0) (by simp)).2⟩
    · exact hl q (List.mem_append.mpr (.inr (List.mem_cons_of_mem _ z)))
theorem Own.openL (h : Own K H L P) (m : (a, Ob.L ds) ∈ L) : ∃ vs, ∀ L', At L a (.raw (.lst vs)) L' → Own K H L' (.dp vs ds :: P) := by
  obtain ⟨M, nd, hl, hs, hp⟩ := h.ex
  obtain ⟨vs, e, q⟩ := (hl _ m).1
  refine ⟨vs, fun L' m' => ?_⟩
  obtain ⟨x, o0, y, rfl, rfl⟩ := m'.parts
  refine ⟨M, by rw [List.map_append, List.map_cons] at nd ⊢; exact nd, fun z hz => ?_, hs, fun z hz => ?_⟩
  · rcases List.mem_append.mp hz with w | w
    · exact hl z (List.mem_append.mpr (.inl w))
    · rcases List.mem_cons.mp w with rfl | w
      · exact ⟨e, (hl (a, o0) (by simp)).2⟩
      · exact hl z (List.mem_append.mpr (.inr (List.mem_cons_of_mem _ w)))
  · rcases List.mem_cons.mp hz with rfl | hz
    · exact q
    · exact hp z hz
theorem Own.openD {kds : List (Key × PyData)} (h : Own K H L P) (m : (a, Ob.D kds) ∈ L) : ∃ kvs : List (Key × V), kvs.map Prod.fst = kds.map Prod.fst ∧ ∀ L', At L a (.raw (.dK kvs)) L' → Own K H L' (.dp (kvs.map Prod.snd) (kds.map Prod.snd) :: P) := by
  obtain ⟨M, nd, hl, hs, hp⟩ := h.ex
  obtain ⟨vs, e, k, q⟩ := (hl _ m).1
  refine ⟨vs, k, fun L' m' => ?_⟩
  obtain ⟨x, o0, y, rfl, rfl⟩ := m'.parts
  refine ⟨M, by rw [List.map_append, List.map_cons] at nd ⊢; exact nd, fun z hz => ?_, hs, fun z hz => ?_⟩
  · rcases List.mem_append.mp hz with w | w
    · exact hl z (List.mem_append.mpr (.inl w))
    · rcases List.mem_cons.mp w with rfl | w
      · exact ⟨e, (hl (a, o0) (by simp)).2⟩
      · exact hl z (List.mem_append.mpr (.inr (List.mem_cons_of_mem _ w)))
  · rcases List.mem_cons.mp hz with rfl | hz
    · exact q
    · exact hp z hz
theorem Own.openS {φ : HO → Prop} (h : Own K H L P) (m : (a, Ob.such φ) ∈ L) : ∃ o, φ o ∧ ∀ L', At L a (.raw o) L' → Own K H L' P := by
  obtain ⟨M, nd, hl, hs, hp⟩ := h.ex
  obtain ⟨o, e, q⟩ := (hl _ m).1
  refine ⟨o, q, fun L' m' => ?_⟩
  obtain ⟨x, o0, y, rfl, rfl⟩ := m'.parts
  refine ⟨M, by rw [List.map_append, List.map_cons] at nd ⊢; exact nd, fun z hz => ?_, hs, hp⟩
  rcases List.mem_append.mp hz with w | w
  · exact hl z (List.mem_append.mpr (.inl w))
  · rcases List.mem_cons.mp w with rfl | w
    · exact ⟨e, (hl (a, o0) (by simp)).2⟩
    · exact hl z (List.mem_append.mpr (.inr (List.mem_cons_of_mem _ w)))
theorem Own.derive (h : Own K H L P) {q : Pf} (f : ∀ M : Hp, (∀ q ∈ P, q.ok K M) → q.ok K M) : Own K H L (q :: P) := by
  obtain ⟨M, nd, hl, hs, hp⟩ := h.ex
  exact ⟨M, nd, hl, hs, fun r hr => (List.mem_cons.mp hr).elim (fun e => e ▸ f M hp) (hp r)⟩
/-! ### what follows of what is known -/
def Dv (K : PySem.W.Frag) (P : List Pf) (vs : List V) (ds : List PyData) : Prop := ∀ M : Hp, (∀ q ∈ P, q.ok K M) → DpAll K M vs ds
def Dv1 (K : PySem.W.Frag) (P : List Pf) (v : V) (d : PyData) : Prop := ∀ M : Hp, (∀ q ∈ P, q.ok K M) → Dp K M v d
theorem Dv.nil : Dv K P [] [] := fun _ _ => .nil
theorem Dv.cons {v : V} {d : PyData} (x : Dv1 K P v d) (y : Dv K P vs ds) : Dv K P (v :: vs) (d :: ds) := fun M h => .cons (x M h) (y M h)
theorem Dv.of (m : Pf.dp vs ds ∈ P) : Dv K P vs ds := fun M h => h _ m
theorem Dv.app (x : Dv K P vs ds) (y : Dv K P us es) : Dv K P (vs ++ us) (ds ++ es) := fun M h => L2.DpAll.app' (x M h) (y M h)
theorem Dv1.non : Dv1 K P .non .none := fun _ _ => .non
theorem Dv1.bl (b : Bool) : Dv1 K P (.bl b) (.bool b) := fun _ _ => .bl b
theorem Dv1.int (i : Int) : Dv1 K P (.int i) (.int i) := fun _ _ => .int i
theorem Dv1.str (x : Str) : Dv1 K P (.str x) (.str x) := fun _ _ => .str x
theorem Dv1.tup (m : Pf.tup t vs ∈ P) (x : Dv K P vs ds) : Dv1 K P (.ref t) (.tuple ds) := fun M h => .tup (SqT.of (h _ m)) (x M h)
theorem Dv1.lst (m : Pf.lst t vs ∈ P) (x : Dv K P vs ds) : Dv1 K P (.ref t) (.list ds) := fun M h => .lst (SqL.of (h _ m)) (x M h)
theorem Dv1.of {v : V} {d : PyData} (m : Pf.dp [v] [d] ∈ P) : Dv1 K P v d := fun M h => by cases h _ m with | cons x _ => exact x
theorem DpAll_split {M : Hp} : ∀ {a b : List V} {d e : List PyData}, L2.DpAll K M (a ++ b) (d ++ e) → a.length = d.length → L2.DpAll K M a d ∧ L2.DpAll K M b e
  | [], _, [], _, h, _ => ⟨.nil, h⟩
  | [], _, _ :: _, _, _, l => by simp at l
  | _ :: _, _, [], _, _, l => by simp at l
  | x :: a, b, y :: d, e, h, l => by
    cases h with
    | cons p q =>
      obtain ⟨r1, r2⟩ := DpAll_split (a := a) (b := b) (d := d) (e := e) q (by simpa using l)
      exact ⟨.cons p r1, r2⟩
theorem Dv.fst {us : List V} (x : Dv K P (vs ++ us) (ds ++ es)) (l : vs.length = ds.length) : Dv K P vs ds := fun M h => (DpAll_split (x M h) l).1
theorem Dv.snd {us : List V} (x : Dv K P (vs ++ us) (ds ++ es)) (l : vs.length = ds.length) : Dv K P us es := fun M h => (DpAll_split (x M h) l).2
theorem Dv.hd {v : V} {d : PyData} (x : Dv K P (v :: vs) (d :: ds)) : Dv1 K P v d := fun M h => by cases x M h with | cons y _ => exact y
theorem Dv.tl {v : V} {d : PyData} (x : Dv K P (v :: vs) (d :: ds)) : Dv K P vs ds := fun M h => by cases x M h with | cons _ y => exact y
theorem Own.pd1 {v : V} {d : PyData} (h : Own K H L P) (m : Pf.dp [v] [d] ∈ P) : Dp K H v d := by
  cases h.pdp m with
  | cons y _ => exact y
theorem Own.dpL (h : Own K H L P) (m : (a, Ob.L ds) ∈ L) : Dp K H (.ref a) (.list ds) := by
  obtain ⟨vs, e, q⟩ := h.lst m
  exact .lst (SqL.of e) q
theorem Dv.take (n : Nat) (x : Dv K P vs ds) : Dv K P (vs.take n) (ds.take n) := fun M h => (x M h).take n
theorem Dv.drop (n : Nat) (x : Dv K P vs ds) : Dv K P (vs.drop n) (ds.drop n) := fun M h => (x M h).drop n
theorem Dv.set {v : V} {d : PyData} (n : Nat) (y : Dv1 K P v d) (x : Dv K P vs ds) : Dv K P (vs.set n v) (ds.set n d) := fun M h => (x M h).set (y M h) n
theorem Dv.erase (n : Nat) (x : Dv K P vs ds) : Dv K P (vs.eraseIdx n) (ds.eraseIdx n) := fun M h => (x M h).erase n
theorem Dv.dropLast (x : Dv K P vs ds) : Dv K P vs.dropLast ds.dropLast := fun M h => (x M h).dropLast
theorem Dv.rev (x : Dv K P vs ds) : Dv K P vs.reverse ds.reverse := fun M h => (x M h).rev
theorem Dv.get {i : Nat} {v : V} {d : PyData} (x : Dv K P vs ds) (e1 : vs[i]? = some v) (e2 : ds[i]? = some d) : Dv1 K P v d := fun M h => (x M h).get' e1 e2
theorem Dv.ints (ns : List Int) : Dv K P (ns.map V.int) (ns.map PyData.int) := fun _ _ => dp_ints ns
theorem Own.dv (h : Own K H L P) (x : Dv K P vs ds) : Own K H L (.dp vs ds :: P) := h.derive x
theorem Own.dv1 {v : V} {d : PyData} (h : Own K H L P) (x : Dv1 K P v d) : Own K H L (.dp [v] [d] :: P) := h.derive fun M z => .cons (x M z) .nil
theorem Own.all (h : Own K H L P) (x : Dv K P vs ds) : DpAll K H vs ds := (h.dv x).pdp List.mem_cons_self
theorem Own.one {v : V} {d : PyData} (h : Own K H L P) (x : Dv1 K P v d) : Dp K H v d := by
  cases (h.dv1 x).pdp List.mem_cons_self with
  | cons y _ => exact y
theorem Own.setL (h : Own K H L P) (m : At L a (.L ds) L') (e : upd H a (.lst vs) = H1) (x : Dv K P vs ds) : Own K H1 L' P := h.setO m e fun M q => ⟨vs, upd_same, x M q⟩
theorem Own.setS {φ : HO → Prop} (h : Own K H L P) (m : At L a (.such φ) L') (e : upd H a o = H1) (x : φ o) : Own K H1 L' P := h.setO m e fun _ _ => ⟨o, upd_same, x⟩
theorem Own.setD {kvs : List (Key × V)} {kds : List (Key × PyData)} (h : Own K H L P) (m : At L a (.D kds) L') (e : upd H a (.dK kvs) = H1) (k : kvs.map Prod.fst = kds.map Prod.fst) (x : Dv K P (kvs.map Prod.snd) (kds.map Prod.snd)) : Own K H1 L' P := h.setO m e fun M q => ⟨kvs, upd_same, k, x M q⟩
theorem Own.closeL (h : Own K H L P) (m : (a, Ob.raw (.lst vs)) ∈ L) (x : Dv K P vs ds) (m' : At L a (.L ds) L') : Own K H L' P := h.re m' fun M q hs hd => ⟨⟨vs, hd _ m, x M q⟩, q⟩
theorem Own.closeS {φ : HO → Prop} (h : Own K H L P) (m : (a, Ob.raw o) ∈ L) (x : φ o) (m' : At L a (.such φ) L') : Own K H L' P := h.re m' fun M q hs hd => ⟨⟨o, hd _ m, x⟩, q⟩
theorem Own.closeD {kvs : List (Key × V)} {kds : List (Key × PyData)} (h : Own K H L P) (m : (a, Ob.raw (.dK kvs)) ∈ L) (k : kvs.map Prod.fst = kds.map Prod.fst) (x : Dv K P (kvs.map Prod.snd) (kds.map Prod.snd)) (m' : At L a (.D kds) L') : Own K H L' P := h.re m' fun M q hs hd => ⟨⟨kvs, hd _ m, k, x M q⟩, q⟩
/-! ### blocks out of a list, and less -/
def Pk (L B R : List (Addr × Ob)) : Prop := L.Perm (B ++ R)
theorem Pk.one {p : Addr × Ob} : Pk (p :: R) [p] R := List.Perm.refl _
theorem Pk.here : Pk (B ++ R) B R := List.Perm.refl _
theorem Pk.all : Pk B B [] := by unfold Pk; rw [List.append_nil]
theorem Pk.skip1 {p : Addr × Ob} (h : Pk L B R) : Pk (p :: L) B (p :: R) := (h.cons p).trans List.perm_middle.symm
theorem Pk.skipB {A : List (Addr × Ob)} (h : Pk L B R) : Pk (A ++ L) B (A ++ R) := by
  unfold Pk at h ⊢
  refine (List.Perm.append_left A h).trans ?_
  rw [← List.append_assoc, ← List.append_assoc]
  exact List.Perm.append_right R List.perm_append_comm
/-- what stands by one word stands by another -/
def Ft (K : PySem.W.Frag) (P : List Pf) (o' o : Ob) : Prop := ∀ (M H : Hp) (a : Addr), (∀ q ∈ P, q.ok K M) → Hd K M H a o' → Hd K M H a o
theorem Ft.refl {o : Ob} : Ft K P o o := fun _ _ _ _ h => h
theorem Ft.eq {o' o : Ob} (e : o' = o) : Ft K P o' o := e ▸ Ft.refl
theorem Ft.lst {us vs : List V} (e : us = vs) : Ft K P (.raw (.lst us)) (.raw (.lst vs)) := e ▸ Ft.refl
theorem Ft.ins {C dx : Addr} {us vs : List (Str × V)} (e : us = vs) : Ft K P (.raw (.ins C dx us)) (.raw (.ins C dx vs)) := e ▸ Ft.refl
theorem Ft.dK {us vs : List (Key × V)} (e : us = vs) : Ft K P (.raw (.dK us)) (.raw (.dK vs)) := e ▸ Ft.refl
theorem Ft.toL (x : Dv K P vs ds) : Ft K P (.raw (.lst vs)) (.L ds) := fun M _ _ q h => ⟨vs, h, x M q⟩
theorem Ft.toS {φ : HO → Prop} {o : HO} (x : φ o) : Ft K P (.raw o) (.such φ) := fun _ _ _ _ h => ⟨o, h, x⟩
theorem Ft.toD {kvs : List (Key × V)} {kds : List (Key × PyData)} (k : kvs.map Prod.fst = kds.map Prod.fst) (x : Dv K P (kvs.map Prod.snd) (kds.map Prod.snd)) : Ft K P (.raw (.dK kvs)) (.D kds) := fun M _ _ q h => ⟨kvs, h, k, x M q⟩
theorem Ft.Le {ds es : List PyData} (e : ds = es) : Ft K P (.L ds) (.L es) := e ▸ Ft.refl
theorem Ft.De {ds es : List (Key × PyData)} (e : ds = es) : Ft K P (.D ds) (.D es) := e ▸ Ft.refl
theorem Ft.S {φ ψ : HO → Prop} (e : ∀ o, φ o → ψ o) : Ft K P (.such φ) (.such ψ) := fun _ _ _ _ ⟨o, h, x⟩ => ⟨o, h, e o x⟩
inductive Al (K : PySem.W.Frag) (P : List Pf) : List (Addr × Ob) → List (Addr × Ob) → Prop
  | nil : Al K P [] []
  | cons {a : Addr} {o' o : Ob} {L' L : List (Addr × Ob)} : Ft K P o' o → Al K P L' L → Al K P ((a, o') :: L') ((a, o) :: L)
theorem Al.refl : ∀ L : List (Addr × Ob), Al K P L L
  | [] => .nil
  | (_, _) :: t => .cons Ft.refl (Al.refl t)
theorem Al.app {A A' B B' : List (Addr × Ob)} (x : Al K P A A') (y : Al K P B B') : Al K P (A ++ B) (A' ++ B') := by
  induction x with
  | nil => exact y
  | cons f _ ih => exact .cons f ih
theorem Al.fst {A A' : List (Addr × Ob)} (x : Al K P A A') : A.map Prod.fst = A'.map Prod.fst := by
  induction x with
  | nil => rfl
  | cons f _ ih => rw [List.map_cons, List.map_cons, ih]
theorem Al.hd {A A' : List (Addr × Ob)} (x : Al K P A A') {M H : Hp} (q : ∀ q ∈ P, q.ok K M) (h : ∀ p ∈ A, Hd K M H p.1 p.2 ∧ M p.1 = none) : ∀ p ∈ A', Hd K M H p.1 p.2 ∧ M p.1 = none := by
  induction x with
  | nil => exact fun _ z => nomatch z
  | cons f _ ih =>
    intro p hp
    rcases List.mem_cons.mp hp with rfl | hp
    · have := h _ List.mem_cons_self
      exact ⟨f _ _ _ q this.1, this.2⟩
    · exact ih (fun p hp => h p (List.mem_cons_of_mem _ hp)) p hp
/-- L' out of L -/
def Sb (K : PySem.W.Frag) (P : List Pf) (L' L : List (Addr × Ob)) : Prop := ∃ L1 R, L.Perm (L1 ++ R) ∧ Al K P L1 L'
theorem Sb.refl (L : List (Addr × Ob)) : Sb K P L L := ⟨L, [], by rw [List.append_nil], Al.refl L⟩
theorem Sb.nil : Sb K P [] L := ⟨[], L, List.Perm.refl _, .nil⟩
theorem Sb.app (x : Pk L B R) (y : Sb K P L' R) : Sb K P (B ++ L') L := by
  obtain ⟨L1, z, e, al⟩ := y
  exact ⟨B ++ L1, z, x.trans (by rw [List.append_assoc]; exact List.Perm.append_left B e), Al.app (Al.refl B) al⟩
theorem Sb.cons {o' : Ob} (x : Pk L [(a, o')] R) (f : Ft K P o' ob) (y : Sb K P L' R) : Sb K P ((a, ob) :: L') L := by
  obtain ⟨L1, z, e, al⟩ := y
  exact ⟨(a, o') :: L1, z, x.trans (List.Perm.append_left [(a, o')] e), .cons f al⟩
theorem Sb.skip {p : Addr × Ob} (y : Sb K P L' L) : Sb K P L' (p :: L) := by
  obtain ⟨L1, z, e, al⟩ := y
  exact ⟨L1, p :: z, (e.cons p).trans List.perm_middle.symm, al⟩
theorem Sb.skipB {A : List (Addr × Ob)} (y : Sb K P L' L) : Sb K P L' (A ++ L) := by
  obtain ⟨L1, z, e, al⟩ := y
  refine ⟨L1, A ++ z, (List.Perm.append_left A e).trans ?_, al⟩
  rw [← List.append_assoc, ← List.append_assoc]
  exact List.Perm.append_right z List.perm_append_comm
def Ps (P' P : List Pf) : Prop := ∀ r ∈ P', r ∈ P
theorem Ps.refl : Ps P P := fun _ h => h
theorem Ps.nil : Ps [] P := fun _ h => nomatch h
theorem Ps.skip {q : Pf} (h : Ps P' P) : Ps P' (q :: P) := fun r hr => List.mem_cons_of_mem _ (h r hr)
theorem Ps.cons {q : Pf} (m : q ∈ P) (h : Ps P' P) : Ps (q :: P') P := fun r hr => (List.mem_cons.mp hr).elim (fun e => e ▸ m) (h r)
theorem Own.sub (h : Own K H L P) (s : Sb K P L' L) (q : Ps P' P) : Own K H L' P' := by
  obtain ⟨M, nd, hl, hs, hp⟩ := h.ex
  obtain ⟨L1, z, e, al⟩ := s
  have nd' := (e.map Prod.fst).nodup_iff.mp nd
  rw [List.map_append, List.nodup_append, al.fst] at nd'
  exact ⟨M, nd'.1, al.hd hp fun p hp' => hl p (e.mem_iff.mpr (List.mem_append.mpr (.inl hp'))), hs, fun r hr => hp r (q r hr)⟩
theorem Own.pick (h : Own K H L P) (m : Pk L B R) : Own K H (B ++ R) P := h.sub ⟨B ++ R, [], by rw [List.append_nil]; exact m, Al.refl _⟩ Ps.refl
/-- a flat value -/
def fv : PyData → V
  | .int i => .int i
  | .bool b => .bl b
  | .str x => .str x
  | _ => .non
def flatD : PyData → Bool
  | .int _ => true
  | .bool _ => true
  | .str _ => true
  | .none => true
  | _ => false
theorem dp_flat {M : Hp} : ∀ {d : PyData} {v : V}, Dp K M v d → flatD d = true → v = fv d
  | _, _, .non, _ => rfl
  | _, _, .bl _, _ => rfl
  | _, _, .int _, _ => rfl
  | _, _, .str _, _ => rfl
  | _, _, .lst _ _, h => nomatch h
  | _, _, .tup _ _, h => nomatch h
theorem dp_flats {M : Hp} : ∀ {vs : List V} {ds : List PyData}, DpAll K M vs ds → ds.all flatD = true → vs = ds.map fv
  | _, _, .nil, _ => rfl
  | _, _, .cons x y, h => by
    rw [List.all_cons, Bool.and_eq_true] at h
    rw [List.map_cons, ← dp_flat x h.1, ← dp_flats y h.2]
/-- a tuple of flat values opened -/
theorem Own.opn {v : V} {ds : List PyData} (h : Own K H L P) (x : Dv1 K P v (.tuple ds)) (hf : ds.all flatD = true := by rfl) : ∃ t, v = .ref t ∧ Own K H L (.sq t (ds.map fv) :: P) := by
  obtain ⟨M, nd, hl, hs, hp⟩ := h.ex
  cases x M hp with
  | @tup t xs _ hq ha =>
    refine ⟨t, rfl, M, nd, hl, hs, fun q hq' => ?_⟩
    rcases List.mem_cons.mp hq' with rfl | hq'
    · rw [← dp_flats ha hf]; exact hq
    · exact hp q hq'
/-- a list that is given up: it never changes any more -/
theorem Own.give (h : Own K H L P) (m : Pk L [(a, Ob.raw (.lst vs))] R) : Own K H R (.lst a vs :: P) := by
  have h2 : Own K H ((a, Ob.raw (.lst vs)) :: R) P := h.pick m
  obtain ⟨M, nd, hl, hs, hp⟩ := h2.ex
  rw [List.map_cons, List.nodup_cons] at nd
  have ha : H a = some (.lst vs) := (hl (a, Ob.raw (.lst vs)) List.mem_cons_self).1
  have ma : M a = none := (hl (a, Ob.raw (.lst vs)) List.mem_cons_self).2
  have sm : Same M (upd M a (.lst vs)) := same_upd ma
  refine ⟨upd M a (.lst vs), nd.2, fun q hq => ?_, fun b u hb => ?_, fun r hr => ?_⟩
  · have n : q.1 ≠ a := fun z => nd.1 (List.mem_map.mpr ⟨q, hq, z⟩)
    have := hl q (List.mem_cons_of_mem _ hq)
    exact ⟨this.1.same sm rfl, by rw [upd_ne n]; exact this.2⟩
  · by_cases z : b = a
    · subst z; rw [upd_same] at hb; rw [ha]; exact hb
    · rw [upd_ne z] at hb; exact hs _ _ hb
  · rcases List.mem_cons.mp hr with rfl | hr
    · exact (upd_same : upd M a (.lst vs) a = _)
    · exact r.same sm (hp r hr)
theorem Own.none_of (h : Own K H L P) (f : H p = none) : ∀ q ∈ L, q.1 ≠ p := fun q hq z => by
  obtain ⟨M, nd, hl, hs, hp⟩ := h.ex
  obtain ⟨u, hu⟩ := (hl q hq).1.some; rw [z, f] at hu; cases hu
/-- owned of nothing: a start -/
theorem Own.start {K : PySem.W.Frag} {H : Hp} : Own K H [] [] := ⟨fun _ => none, by simp, fun _ h => (nomatch h), fun _ _ h => (nomatch h), fun _ h => (nomatch h)⟩
theorem pg_trip {X : Cx} {i j l : Nat} {x y z : Str} {p1 p2 p3 pos : Pos} {kk : Nat} (hc : X.calm = true) (hN : X.N.Nodup) (hi : X.N[i]? = some x) (hj : X.N[j]? = some y) (hl : X.N[l]? = some z) (hx : Loc X.env.scope x) (hy : Loc X.env.scope y) (hz : Loc X.env.scope z)
    (hf : X.fn x = true ∨ X.env.scope.names.lookup x = some .local := by first | exact .inl rfl | exact .inr rfl | assumption) (hf2 : X.fn y = true ∨ X.env.scope.names.lookup y = some .local := by first | exact .inl rfl | exact .inr rfl | assumption) (hf3 : X.fn z = true ∨ X.env.scope.names.lookup z = some .local := by first | exact .inl rfl | exact .inr rfl | assumption)
    (hn : (assignEach [Expr.Name x p1, .Name y p2, .Name z p3] X.env).length = 3 := by rfl) (hst : (assignEach [Expr.Name x p1, .Name y p2, .Name z p3] X.env).findIdx? (·.1) = none := by rfl)
    (hs : (assignEach [Expr.Name x p1, .Name y p2, .Name z p3] X.env).map (·.2) = assign (.Name x p1) X.env :: (assignEach [Expr.Name y p2, .Name z p3] X.env).map (·.2) := by rfl)
    (hs2 : (assignEach [Expr.Name y p2, .Name z p3] X.env).map (·.2) = assign (.Name y p2) X.env :: (assignEach [Expr.Name z p3] X.env).map (·.2) := by rfl)
    (hs3 : (assignEach [Expr.Name z p3] X.env).map (·.2) = assign (.Name z p3) X.env :: (assignEach [] X.env).map (·.2) := by rfl) :
    PG X (.Tuple [.Name x p1, .Name y p2, .Name z p3] kk pos) (gTup X.K 3 (gCons (gName i) (gCons (gName j) (gCons (gName l) gNil)))) :=
  pg_tup hc (pgs_cons (pg_name hN hi hx hf) (pgs_cons (pg_name hN hj hy hf2) (pgs_cons (pg_name hN hl hz hf3) pgs_nil hs3) hs2) hs) hn hst
theorem kit_self' {K : PySem.W.Frag} {C : Addr} : PySem.W.kitOne K (.ref C) (.ref C) = some true := if_pos (beq_self_eq_true _)
/-! ### comprehensions -/
section
variable {g : TG} {te : TE} {tt : TT} {wv : List Nat} {σ : L2.St} {D : Addr} {Qd : Hp → Prop} {xs : List V}
theorem own_app {i : Nat} {y : V} {d : PyData} {vs : List V} (q' : Own K H ((D, .L ds) :: L) P) (ev : H D = some (.lst vs)) (dv : Dv1 K P y d) : Own K (upd H D (.lst (vs ++ [y]))) ((D, .L (ds ++ [d])) :: L) P := by
  refine q'.setU .head rfl fun M hp ho => ⟨vs ++ [y], upd_same, ?_⟩
  obtain ⟨vs', ev', dvs⟩ := ho _ List.mem_cons_self
  rw [ev] at ev'
  cases ev'
  exact L2.DpAll.app' dvs (.cons (dv M hp) .nil)
/-- a new list of data, over any walk -/
theorem lc_ownW {J : It} {n : Nat} {G : Hp → Prop} {Y : Nat → Hp → V → Hp → Prop} (w : Walk J n G Y) (ds : List PyData) (h : Own K H1 L P) (hD : H1 D = none) (hx : n = ds.length) (hz : n ≤ 10000)
    (ha : ∀ (H : Hp) (L' : List (Addr × Ob)) (P' : List Pf), (∀ p ∈ L, p ∈ L') → Ps P P' → Own K H L' P' → G H)
    (hs : ∀ (i : Nat) (x : V) (d : PyData) (H H' : Hp) (P' : List Pf) (Q : VK), i < n → Y i H x H' → ds[i]? = some d → Ps P P' → Own K H ((D, .L (ds.take i)) :: L) P' →
      (∀ (y : V) (H'' : Hp) (P'' : List Pf), Ps P' P'' → Own K H'' ((D, .L (ds.take i)) :: L) P'' → Dv1 K P'' y d → Q y H'') → g x (wipe σ wv) H' fun σ2 H2 => wipe σ2 wv = wipe σ wv ∧ te σ2 H2 Q)
    (hd : ∀ (H' : Hp) (P' : List Pf), Ps P P' → Own K H' ((D, .L ds) :: L) P' → Qd H') :
    ∃ W : Nat → Nat → Hp → Prop, (∃ m, W 0 m (upd H1 D (.lst []))) ∧ ∀ i m H, W i m H →
      (J.stop i H ∧ Qd H) ∨ (J.go i H ∧ ∃ Nx : Hp → Prop, (∀ H', Nx H' → ∃ m', m' < m ∧ W (i + 1) m' H') ∧ ∀ x H', J.yld i H x H' → g x (wipe σ wv) H' fun σ2 H2 => wipe σ2 wv = wipe σ wv ∧ tYes σ2 H2 fun b H3 =>
        if b = true then te σ2 H3 fun y H4 => ∃ acc, H4 D = some (.lst acc) ∧ acc.length < sizeLine ∧ Nx (upd H4 D (.lst (acc ++ [y]))) else Nx H3) := by
  refine lc_it w (fun i H => ∃ P', Ps P P' ∧ Own K H ((D, .L (ds.take i)) :: L) P') ⟨P, Ps.refl, ?_⟩ (fun i H _ ⟨P', s, q⟩ => ha H _ P' (fun p m => List.mem_cons_of_mem _ m) s q) (fun i x H H' hi ⟨P', s, q⟩ y => ?_) (fun H ⟨P', s, q⟩ => hd H P' s (by rw [List.take_of_length_le (by omega)] at q; exact q))
  · have h2 := h.new hD (o := .lst []) rfl
    exact h2.closeL (vs := []) List.mem_cons_self (by rw [List.take_zero]; exact Dv.nil) .head
  · have hi2 : i < ds.length := by omega
    refine hs i x ds[i] H H' P' _ hi y (List.getElem?_eq_getElem hi2) s q (fun y H'' P'' s' q' dv => ?_)
    obtain ⟨vs, ev, dvs⟩ := q'.lst List.mem_cons_self
    have len := dvs.len
    rw [List.length_take] at len
    refine ⟨vs, ev, size_lt (by omega), P'', fun r m => s' r (s r m), ?_⟩
    rw [List.take_add_one, List.getElem?_eq_getElem hi2]
    exact own_app (i := i) q' ev dv
/-- the same of flat values, as they are -/
theorem lc_rawW {J : It} {n : Nat} {G : Hp → Prop} {Y : Nat → Hp → V → Hp → Prop} (w : Walk J n G Y) (ys : List V) (h : Own K H1 L P) (hD : H1 D = none) (hx : n = ys.length) (hz : n ≤ 10000)
    (ha : ∀ (H : Hp) (L' : List (Addr × Ob)) (P' : List Pf), (∀ p ∈ L, p ∈ L') → Ps P P' → Own K H L' P' → G H)
    (hs : ∀ (i : Nat) (x y : V) (H H' : Hp) (P' : List Pf) (Q : VK), i < n → Y i H x H' → ys[i]? = some y → Ps P P' → Own K H ((D, .raw (.lst (ys.take i))) :: L) P' →
      (∀ (H'' : Hp) (P'' : List Pf), Ps P' P'' → Own K H'' ((D, .raw (.lst (ys.take i))) :: L) P'' → Q y H'') → g x (wipe σ wv) H' fun σ2 H2 => wipe σ2 wv = wipe σ wv ∧ te σ2 H2 Q)
    (hd : ∀ (H' : Hp) (P' : List Pf), Ps P P' → Own K H' ((D, .raw (.lst ys)) :: L) P' → Qd H') :
    ∃ W : Nat → Nat → Hp → Prop, (∃ m, W 0 m (upd H1 D (.lst []))) ∧ ∀ i m H, W i m H →
      (J.stop i H ∧ Qd H) ∨ (J.go i H ∧ ∃ Nx : Hp → Prop, (∀ H', Nx H' → ∃ m', m' < m ∧ W (i + 1) m' H') ∧ ∀ x H', J.yld i H x H' → g x (wipe σ wv) H' fun σ2 H2 => wipe σ2 wv = wipe σ wv ∧ tYes σ2 H2 fun b H3 =>
        if b = true then te σ2 H3 fun y H4 => ∃ acc, H4 D = some (.lst acc) ∧ acc.length < sizeLine ∧ Nx (upd H4 D (.lst (acc ++ [y]))) else Nx H3) := by
  refine lc_it w (fun i H => ∃ P', Ps P P' ∧ Own K H ((D, .raw (.lst (ys.take i))) :: L) P') ⟨P, Ps.refl, ?_⟩ (fun i H _ ⟨P', s, q⟩ => ha H _ P' (fun p m => List.mem_cons_of_mem _ m) s q) (fun i x H H' hi ⟨P', s, q⟩ y => ?_) (fun H ⟨P', s, q⟩ => hd H P' s (by rw [List.take_of_length_le (by omega)] at q; exact q))
  · rw [List.take_zero]; exact h.new hD rfl
  · have hi2 : i < ys.length := by omega
    refine hs i x ys[i] H H' P' _ hi y (List.getElem?_eq_getElem hi2) s q (fun H'' P'' s' q' => ?_)
    refine ⟨ys.take i, q'.raw List.mem_cons_self, size_lt (by rw [List.length_take]; omega), P'', fun r m => s' r (s r m), ?_⟩
    rw [List.take_add_one, List.getElem?_eq_getElem hi2]
    exact q'.set .head rfl
/-- sifted: those of zs that t takes, as they are; tt tells t, te the thing -/
theorem lc_siftW {α : Type} {J : It} {G : Hp → Prop} {Y : Nat → Hp → V → Hp → Prop} (zs : List α) (f : α → V) (t : α → Bool) (w : Walk J zs.length G Y) (h : Own K H1 L P) (hD : H1 D = none) (hz : zs.length ≤ 10000)
    (ha : ∀ (H : Hp) (L' : List (Addr × Ob)) (P' : List Pf), (∀ p ∈ L, p ∈ L') → Ps P P' → Own K H L' P' → G H)
    (hs : ∀ (i : Nat) (z : α) (x : V) (H H' : Hp) (P' : List Pf) (ys : List V) (Qn : Hp → Prop) (Qy : VK), zs[i]? = some z → Y i H x H' → Ps P P' → Own K H ((D, .raw (.lst ys)) :: L) P' →
      (t z = false → ∀ (H'' : Hp) (P'' : List Pf), Ps P' P'' → Own K H'' ((D, .raw (.lst ys)) :: L) P'' → Qn H'') →
      (t z = true → ∀ (H'' : Hp) (P'' : List Pf), Ps P' P'' → Own K H'' ((D, .raw (.lst ys)) :: L) P'' → Qy (f z) H'') → g x (wipe σ wv) H' fun σ2 H2 => wipe σ2 wv = wipe σ wv ∧ tt σ2 H2 fun b H3 => if b = true then te σ2 H3 Qy else Qn H3)
    (hd : ∀ (H' : Hp) (P' : List Pf), Ps P P' → Own K H' ((D, .raw (.lst ((zs.filter t).map f))) :: L) P' → Qd H') :
    ∃ W : Nat → Nat → Hp → Prop, (∃ m, W 0 m (upd H1 D (.lst []))) ∧ ∀ i m H, W i m H →
      (J.stop i H ∧ Qd H) ∨ (J.go i H ∧ ∃ Nx : Hp → Prop, (∀ H', Nx H' → ∃ m', m' < m ∧ W (i + 1) m' H') ∧ ∀ x H', J.yld i H x H' → g x (wipe σ wv) H' fun σ2 H2 => wipe σ2 wv = wipe σ wv ∧ tt σ2 H2 fun b H3 =>
        if b = true then te σ2 H3 fun y H4 => ∃ acc, H4 D = some (.lst acc) ∧ acc.length < sizeLine ∧ Nx (upd H4 D (.lst (acc ++ [y]))) else Nx H3) := by
  refine lc_it w (fun i H => ∃ P', Ps P P' ∧ Own K H ((D, .raw (.lst (((zs.take i).filter t).map f))) :: L) P') ⟨P, Ps.refl, ?_⟩ (fun i H _ ⟨P', s, q⟩ => ha H _ P' (fun p m => List.mem_cons_of_mem _ m) s q) (fun i x H H' hi ⟨P', s, q⟩ y => ?_) (fun H ⟨P', s, q⟩ => hd H P' s (by rw [List.take_of_length_le (by omega)] at q; exact q))
  · rw [List.take_zero]; exact h.new hD rfl
  · have et : zs.take (i + 1) = zs.take i ++ [zs[i]] := by rw [List.take_add_one, List.getElem?_eq_getElem hi]; rfl
    refine hs i zs[i] x H H' P' _ _ _ (List.getElem?_eq_getElem hi) y s q (fun tn H'' P'' s' q' => ⟨P'', fun r m => s' r (s r m), ?_⟩) (fun ty H'' P'' s' q' => ?_)
    · rw [et, List.filter_append, List.filter_cons, tn]; simpa using q'
    · refine ⟨_, q'.raw List.mem_cons_self, size_lt (by rw [List.length_map]; exact Nat.le_trans (List.length_filter_le _ _) (by rw [List.length_take]; omega)), P'', fun r m => s' r (s r m), ?_⟩
      have e2 : ((zs.take (i + 1)).filter t).map f = ((zs.take i).filter t).map f ++ [f zs[i]] := by rw [et, List.filter_append, List.filter_cons, ty]; simp
      rw [e2]
      exact q'.set .head rfl
end
/-! ### the pot -/
def PotO (o : HO) : Prop := ∃ x y : Int, o = .lst [.int x, .int y] ∧ 0 ≤ x ∧ 0 ≤ y ∧ y < 4294967296
def pt (a : Addr) : List (Addr × Ob) := [(a, .such PotO)]
/-- called with the pot and how many: a number below that, and the pot is still one -/
def spDrw (K : PySem.W.Frag) : Sp := fun vs H Q _ => ∃ (a : Addr) (n : Int) (R : List (Addr × Ob)) (P : List Pf), vs = [.ref a, .int n] ∧ Own K H (pt a ++ R) P ∧ 0 < n ∧ n < 1073741824 ∧
  ∀ (d : Int) (H' : Hp), 0 ≤ d → d < n → Own K H' (pt a ++ R) P → Q (.int d) H'
end Hx

set_option Elab.async false
set_option linter.all false
set_option maxRecDepth 100000
set_option maxHeartbeats 4000000
/-! cuts: what holds behind a statement, behind a test, is said once for all ways that come there -/
namespace Hx
open PySem PySem.Spec PyProof.Rows L2
def tMid (t : TS) : TS := fun D σ H => Stop (∃ Mid : L2.St → Hp → Prop, t { D with nx := Mid } σ H ∧ ∀ σ' H', Mid σ' H' → D.nx σ' H')
theorem ps_mid {X : Cx} {st : Stmt} {t : TS} (h : PS X st t) : PS X st (tMid t) := by
  refine ⟨fun pins s σ H D I q => ?_⟩
  obtain ⟨Mid, q, r⟩ := q.h
  refine thn (h.run pins s σ H { D with nx := Mid } I q) fun f s1 q => ?_
  cases f with
  | next =>
    obtain ⟨σ', H', I', q⟩ := q
    exact ⟨σ', H', I', r _ _ q⟩
  | ret v => exact q
  | brk => exact q
  | cont => exact q
def tTMid (t : TT) : TT := fun σ H Q => Stop (∃ Mid : Bool → Hp → Prop, t σ H Mid ∧ ∀ b H', Mid b H' → Q b H')
theorem pt_mid {X : Cx} {c : Expr} {t : TT} (h : PT X c t) : PT X c (tTMid t) := by
  refine ⟨fun pins s σ H Q I q => ?_⟩
  obtain ⟨Mid, q, r⟩ := q.h
  refine thn (h.run pins s σ H Mid I q) fun d s1 q => ?_
  obtain ⟨H1, I1, q⟩ := q
  exact ⟨H1, I1, r _ _ q⟩
def tEMid (t : TE) : TE := fun σ H Q => Stop (∃ Mid : VK, t σ H Mid ∧ ∀ v H', Mid v H' → Q v H')
theorem pe_mid {X : Cx} {e : Expr} {t : TE} (h : PE X e t) : PE X e (tEMid t) := by
  refine ⟨fun pins s σ H Q I q => ?_⟩
  obtain ⟨Mid, q, r⟩ := q.h
  refine thn (h.run pins s σ H Mid I q) fun d s1 q => ?_
  obtain ⟨v, H1, I1, rv, q⟩ := q
  exact ⟨v, H1, I1, rv, r _ _ q⟩
theorem Ps.trans {P P' P'' : List Pf} (h : Ps P P') (k : Ps P' P'') : Ps P P'' := fun r hr => k r (h r hr)
end Hx

set_option Elab.async false
set_option linter.all false
set_option maxRecDepth 100000
set_option maxHeartbeats 4000000
/-! HsDict: dicts with keys of ints in owned heaps: look-ups, stores, walks under a lock, comprehensions; sorted lists -/
namespace Hx
open PySem PySem.Spec PyProof.Rows L2
/-- a target x, (y, z) -/
theorem pg_pairN {X : Cx} {i j l : Nat} {x y z : Str} {p1 p2 p3 pos pos2 : Pos} {kk kk2 : Nat} (hc : X.calm = true) (hN : X.N.Nodup) (hi : X.N[i]? = some x) (hj : X.N[j]? = some y) (hl : X.N[l]? = some z) (hx : Loc X.env.scope x) (hy : Loc X.env.scope y) (hz : Loc X.env.scope z)
    (hf : X.fn x = true ∨ X.env.scope.names.lookup x = some .local := by first | exact .inl rfl | exact .inr rfl | assumption) (hf2 : X.fn y = true ∨ X.env.scope.names.lookup y = some .local := by first | exact .inl rfl | exact .inr rfl | assumption) (hf3 : X.fn z = true ∨ X.env.scope.names.lookup z = some .local := by first | exact .inl rfl | exact .inr rfl | assumption)
    (hn : (assignEach [Expr.Name x p1, .Tuple [.Name y p2, .Name z p3] kk2 pos2] X.env).length = 2 := by rfl) (hst : (assignEach [Expr.Name x p1, .Tuple [.Name y p2, .Name z p3] kk2 pos2] X.env).findIdx? (·.1) = none := by rfl)
    (hs : (assignEach [Expr.Name x p1, .Tuple [.Name y p2, .Name z p3] kk2 pos2] X.env).map (·.2) = assign (.Name x p1) X.env :: (assignEach [Expr.Tuple [.Name y p2, .Name z p3] kk2 pos2] X.env).map (·.2) := by rfl)
    (hs2 : (assignEach [Expr.Tuple [.Name y p2, .Name z p3] kk2 pos2] X.env).map (·.2) = assign (.Tuple [.Name y p2, .Name z p3] kk2 pos2) X.env :: (assignEach [] X.env).map (·.2) := by rfl)
    (hn' : (assignEach [Expr.Name y p2, .Name z p3] X.env).length = 2 := by rfl) (hst' : (assignEach [Expr.Name y p2, .Name z p3] X.env).findIdx? (·.1) = none := by rfl)
    (hs' : (assignEach [Expr.Name y p2, .Name z p3] X.env).map (·.2) = assign (.Name y p2) X.env :: (assignEach [Expr.Name z p3] X.env).map (·.2) := by rfl)
    (hs2' : (assignEach [Expr.Name z p3] X.env).map (·.2) = assign (.Name z p3) X.env :: (assignEach [] X.env).map (·.2) := by rfl) :
    PG X (.Tuple [.Name x p1, .Tuple [.Name y p2, .Name z p3] kk2 pos2] kk pos) (gTup X.K 2 (gCons (gName i) (gCons (gTup X.K 2 (gCons (gName j) (gCons (gName l) gNil))) gNil))) :=
  pg_tup hc (pgs_cons (pg_name hN hi hx hf) (pgs_cons (pg_pair hc hN hj hl hy hz hf2 hf3 hn' hst' hs' hs2') pgs_nil hs2) hs) hn hst
/-! ### pairs as tables, of data -/
def valD (kds : List (Key × PyData)) (k : Key) : Option PyData := (kds.find? fun kv => decide (kv.1 = k)).map (·.2)
def putD (kds : List (Key × PyData)) (k : Key) (d : PyData) : List (Key × PyData) :=
  if (kds.any fun kv => decide (kv.1 = k)) = true then kds.map (fun kv => if kv.1 = k then (kv.1, d) else kv) else kds ++ [(k, d)]
def dropD (kds : List (Key × PyData)) (k : Key) : List (Key × PyData) := kds.filter fun kv => decide (kv.1 ≠ k)
section
variable {K : PySem.W.Frag} {P : List Pf}
theorem keys_cons {p : Key × V} {kvs : List (Key × V)} {q : Key × PyData} {kds : List (Key × PyData)} (h : (p :: kvs).map Prod.fst = (q :: kds).map Prod.fst) : p.1 = q.1 ∧ kvs.map Prod.fst = kds.map Prod.fst := by
  simpa using h
theorem valV_isSome : ∀ {kvs : List (Key × V)} {kds : List (Key × PyData)} (k : Key), kvs.map Prod.fst = kds.map Prod.fst → (valV kvs k).isSome = (valD kds k).isSome
  | [], [], _, _ => rfl
  | [], _ :: _, _, h => by simp at h
  | _ :: _, [], _, h => by simp at h
  | p :: kvs, q :: kds, k, h => by
    obtain ⟨h1, h2⟩ := keys_cons h
    have ih := valV_isSome k h2
    by_cases e : p.1 = k
    · have e2 : q.1 = k := h1 ▸ e
      simp [valV, valD, List.find?_cons, e, e2]
    · have e2 : ¬ q.1 = k := h1 ▸ e
      simp only [valV, valD] at ih
      simp [valV, valD, List.find?_cons, e, e2, ih]
theorem valV_dp {M : Hp} : ∀ {kvs : List (Key × V)} {kds : List (Key × PyData)} {k : Key} {v : V} {d : PyData}, kvs.map Prod.fst = kds.map Prod.fst → DpAll K M (kvs.map Prod.snd) (kds.map Prod.snd) → valV kvs k = some v → valD kds k = some d → Dp K M v d
  | [], _, k, v, d, _, _, e, _ => by simp [valV] at e
  | _ :: _, [], _, _, _, h, _, _, _ => by simp at h
  | p :: kvs, q :: kds, k, v, d, h, hd, e1, e2 => by
    obtain ⟨h1, h2⟩ := keys_cons h
    cases hd with
    | cons x y =>
      by_cases e : p.1 = k
      · have e' : q.1 = k := h1 ▸ e
        simp [valV, List.find?_cons, e] at e1
        simp [valD, List.find?_cons, e'] at e2
        subst e1; subst e2
        exact x
      · have e' : ¬ q.1 = k := h1 ▸ e
        refine valV_dp (k := k) h2 y ?_ ?_
        · simpa [valV, List.find?_cons, e] using e1
        · simpa [valD, List.find?_cons, e'] using e2
theorem Dv.val {kvs : List (Key × V)} {kds : List (Key × PyData)} {k : Key} {v : V} {d : PyData} (x : Dv K P (kvs.map Prod.snd) (kds.map Prod.snd)) (hk : kvs.map Prod.fst = kds.map Prod.fst) (e1 : valV kvs k = some v) (e2 : valD kds k = some d) : Dv1 K P v d := fun M h => valV_dp hk (x M h) e1 e2
theorem valV_of {kvs : List (Key × V)} {kds : List (Key × PyData)} {k : Key} {d : PyData} (hk : kvs.map Prod.fst = kds.map Prod.fst) (e : valD kds k = some d) : ∃ v, valV kvs k = some v := by
  have := valV_isSome k hk
  rw [e] at this
  exact Option.isSome_iff_exists.mp this
theorem valV_ofN {kvs : List (Key × V)} {kds : List (Key × PyData)} {k : Key} (hk : kvs.map Prod.fst = kds.map Prod.fst) (e : valD kds k = none) : valV kvs k = none := by
  have := valV_isSome k hk
  rw [e] at this
  exact Option.not_isSome_iff_eq_none.mp (by rw [this]; decide)
theorem any_keys : ∀ {kvs : List (Key × V)} {kds : List (Key × PyData)} (k : Key), kvs.map Prod.fst = kds.map Prod.fst → (kvs.any fun kv => decide (kv.1 = k)) = (kds.any fun kv => decide (kv.1 = k))
  | [], [], _, _ => rfl
  | [], _ :: _, _, h => by simp at h
  | _ :: _, [], _, h => by simp at h
  | p :: kvs, q :: kds, k, h => by
    obtain ⟨h1, h2⟩ := keys_cons h
    rw [List.any_cons, List.any_cons, any_keys k h2, h1]
theorem putK_fst {kvs : List (Key × V)} {kds : List (Key × PyData)} (hk : kvs.map Prod.fst = kds.map Prod.fst) (k : Key) (v : V) (d : PyData) : (putK kvs k v).map Prod.fst = (putD kds k d).map Prod.fst := by
  have e : ∀ {α : Type} (y : α) (l : List (Key × α)), (l.map fun kv => if kv.1 = k then (kv.1, y) else kv).map Prod.fst = l.map Prod.fst := fun y l => by
    rw [List.map_map]
    refine List.map_congr_left fun kv _ => ?_
    simp only [Function.comp]
    split <;> rfl
  unfold putK putD
  rw [any_keys k hk]
  split
  · rw [e, e, hk]
  · rw [List.map_append, List.map_append, hk]; rfl
theorem put_dp {M : Hp} : ∀ {kvs : List (Key × V)} {kds : List (Key × PyData)} {k : Key} {v : V} {d : PyData}, kvs.map Prod.fst = kds.map Prod.fst → DpAll K M (kvs.map Prod.snd) (kds.map Prod.snd) → Dp K M v d →
    DpAll K M ((kvs.map fun kv => if kv.1 = k then (kv.1, v) else kv).map Prod.snd) ((kds.map fun kv => if kv.1 = k then (kv.1, d) else kv).map Prod.snd)
  | [], [], _, _, _, _, _, _ => .nil
  | [], _ :: _, _, _, _, h, _, _ => by simp at h
  | _ :: _, [], _, _, _, h, _, _ => by simp at h
  | p :: kvs, q :: kds, k, v, d, h, hd, x => by
    obtain ⟨h1, h2⟩ := keys_cons h
    cases hd with
    | cons a b =>
      have ih := put_dp (k := k) h2 b x
      simp only [List.map_cons]
      refine .cons ?_ ih
      by_cases e : p.1 = k
      · rw [if_pos e, if_pos (h1 ▸ e)]; exact x
      · rw [if_neg e, if_neg (h1 ▸ e)]; exact a
theorem Dv.put {kvs : List (Key × V)} {kds : List (Key × PyData)} {k : Key} {v : V} {d : PyData} (x : Dv K P (kvs.map Prod.snd) (kds.map Prod.snd)) (hk : kvs.map Prod.fst = kds.map Prod.fst) (y : Dv1 K P v d) : Dv K P ((putK kvs k v).map Prod.snd) ((putD kds k d).map Prod.snd) := fun M h => by
  unfold putK putD
  rw [any_keys k hk]
  split
  · exact put_dp hk (x M h) (y M h)
  · rw [List.map_append, List.map_append]
    exact L2.DpAll.app' (x M h) (.cons (y M h) .nil)
theorem dropK_fst : ∀ {kvs : List (Key × V)} {kds : List (Key × PyData)} (k : Key), kvs.map Prod.fst = kds.map Prod.fst → (dropK kvs k).map Prod.fst = (dropD kds k).map Prod.fst
  | [], [], _, _ => rfl
  | [], _ :: _, _, h => by simp at h
  | _ :: _, [], _, h => by simp at h
  | p :: kvs, q :: kds, k, h => by
    obtain ⟨h1, h2⟩ := keys_cons h
    have ih := dropK_fst k h2
    unfold dropK dropD at ih ⊢
    rw [List.filter_cons, List.filter_cons, h1]
    split
    · rw [List.map_cons, List.map_cons, ih, h1]
    · exact ih
theorem drop_dp {M : Hp} : ∀ {kvs : List (Key × V)} {kds : List (Key × PyData)} {k : Key}, kvs.map Prod.fst = kds.map Prod.fst → DpAll K M (kvs.map Prod.snd) (kds.map Prod.snd) → DpAll K M ((dropK kvs k).map Prod.snd) ((dropD kds k).map Prod.snd)
  | [], [], _, _, _ => .nil
  | [], _ :: _, _, h, _ => by simp at h
  | _ :: _, [], _, h, _ => by simp at h
  | p :: kvs, q :: kds, k, h, hd => by
    obtain ⟨h1, h2⟩ := keys_cons h
    cases hd with
    | cons a b =>
      have ih := drop_dp (k := k) h2 b
      unfold dropK dropD at ih ⊢
      rw [List.filter_cons, List.filter_cons, h1]
      split
      · exact .cons a ih
      · exact ih
theorem Dv.drop' {kvs : List (Key × V)} {kds : List (Key × PyData)} {k : Key} (x : Dv K P (kvs.map Prod.snd) (kds.map Prod.snd)) (hk : kvs.map Prod.fst = kds.map Prod.fst) : Dv K P ((dropK kvs k).map Prod.snd) ((dropD kds k).map Prod.snd) := fun M h => drop_dp hk (x M h)
/-! rows as a table -/
theorem valD_rows {α : Type} (key : α → Int) (dat : α → PyData) (rs : List α) (n : Int) : valD (rs.map fun r => (Sum.inl (key r), dat r)) (Sum.inl n) = (rs.find? fun r => decide (key r = n)).map dat := by
  unfold valD
  rw [List.find?_map, Option.map_map]
  congr 1
  congr 1
  funext r
  simp [Function.comp]
theorem dropD_rows {α : Type} (key : α → Int) (dat : α → PyData) (rs : List α) (n : Int) : dropD (rs.map fun r => (Sum.inl (key r), dat r)) (Sum.inl n) = (rs.filter fun r => decide (key r ≠ n)).map fun r => (Sum.inl (key r), dat r) := by
  unfold dropD
  rw [List.filter_map]
  congr 1
  congr 1
  funext r
  simp [Function.comp]
theorem putD_new {kds : List (Key × PyData)} {k : Key} {d : PyData} (h : valD kds k = none) : putD kds k d = kds ++ [(k, d)] := by
  unfold putD
  rw [if_neg]
  intro e
  obtain ⟨x, hx, he⟩ := List.any_eq_true.mp e
  unfold valD at h
  rw [Option.map_eq_none_iff, List.find?_eq_none] at h
  exact h x hx he
theorem putD_rows {α : Type} (key : α → Int) (dat : α → PyData) (rs : List α) (n : Int) (d : PyData) (f : α → α) (hin : ∃ r ∈ rs, key r = n) (hk : ∀ r, key (f r) = key r) (hd : ∀ r ∈ rs, key r = n → dat (f r) = d) (ho : ∀ r ∈ rs, key r ≠ n → f r = r) :
    putD (rs.map fun r => (Sum.inl (key r), dat r)) (Sum.inl n) d = (rs.map f).map fun r => (Sum.inl (key r), dat r) := by
  unfold putD
  rw [if_pos]
  · rw [List.map_map, List.map_map]
    refine List.map_congr_left fun r hr => ?_
    simp only [Function.comp]
    by_cases e : key r = n
    · rw [if_pos (by rw [e]), hk, hd r hr e]
    · rw [if_neg (fun z => e (by injection z)), ho r hr e]
  · obtain ⟨r, hr, e⟩ := hin
    rw [List.any_map]
    exact List.any_eq_true.mpr ⟨r, hr, by simp [Function.comp, e]⟩
end
/-! ### walker's facts -/
theorem DGet.ki {H : Hp} {a : Addr} {kvs : List (Key × V)} {n : Int} {o : Option V} (e : H a = some (.dK kvs)) (h : valV kvs (Sum.inl n) = o) : DGet H a (.int n) o := h ▸ DGet.k (k := Sum.inl n) e
theorem DGet.kiF {H : Hp} {a : Addr} {kvs : List (Key × V)} {n : Int} {o : Option V} {od : Obj} (e : H a = some (.frz od (.dK kvs))) (h : valV kvs (Sum.inl n) = o) : DGet H a (.int n) o := h ▸ .inl ⟨kvs, Sum.inl n, .inr ⟨od, e⟩, rfl, rfl⟩
theorem DPut.ki {H : Hp} {a : Addr} {kvs : List (Key × V)} {n : Int} {v : V} (e : H a = some (.dK kvs)) (hl : kvs.length < sizeLine) : DPut H a (.int n) v (upd H a (.dK (putK kvs (Sum.inl n) v))) := DPut.k (k := Sum.inl n) e hl
theorem at0 (v : V) (l : List V) : atI (v :: l) 0 = some v := by
  have h := atI_nat (xs := v :: l) (j := 0) (v := v) rfl
  exact h
theorem at1 (u v : V) (l : List V) : atI (u :: v :: l) 1 = some v := by
  have h := atI_nat (xs := u :: v :: l) (j := 1) (v := v) rfl
  exact h
theorem at2 (t u v : V) (l : List V) : atI (t :: u :: v :: l) 2 = some v := by
  have h := atI_nat (xs := t :: u :: v :: l) (j := 2) (v := v) rfl
  exact h
theorem isSome_ofV {o : Option V} {v : V} (h : o = some v) : o.isSome = true := by rw [h]; rfl
theorem kV_int {n : Int} : V.int n = kV (Sum.inl n) := rfl
/-! ### locks at which the walker stops -/
def tLockS (t : TS) : TS := fun D σ H => Stop (tLock t D σ H)
def tLockES (t : TE) : TE := fun σ H Q => Stop (tLockE t σ H Q)
theorem tLockS_eq (t : TS) : tLockS t = tLock t := by funext D σ H; exact stop_eq
theorem tLockES_eq (t : TE) : tLockES t = tLockE t := by funext σ H Q; exact stop_eq
theorem ps_lockS {X : Cx} {st : Stmt} {t : TS} (h : PS X st t) : PS X st (tLockS t) := by rw [tLockS_eq]; exact ps_lock h
theorem pe_lockS {X : Cx} {e : Expr} {t : TE} (h : PE X e t) : PE X e (tLockES t) := by rw [tLockES_eq]; exact pe_lock h
variable {K : PySem.W.Frag} {H H1 M : Hp} {L L' R B : List (Addr × Ob)} {P P' : List Pf} {a d : Addr} {u : HO}
theorem Own.lockE {t : TE} {σ : L2.St} {Q : VK} (h : Own K H L P) (m : (d, Ob.raw u) ∈ L) (hm : Mut (some u)) (k : ∀ (od : Obj) (H1 : Hp), (∀ L', At L d (.raw (.frz od u)) L' → Own K H1 L' P) → t σ H1 fun v H' => H' d = some (.frz od u) ∧ Q v (upd H' d u)) : tLockES t σ H Q :=
  ⟨⟨d, u, h.raw m, hm, fun od => k od _ fun L' m' => h.set m' rfl⟩⟩
theorem Own.lockS {t : TS} {σ : L2.St} {D : L2.Ends} (h : Own K H L P) (m : (d, Ob.raw u) ∈ L) (hm : Mut (some u)) (k : ∀ (od : Obj) (H1 : Hp), (∀ L', At L d (.raw (.frz od u)) L' → Own K H1 L' P) →
    t ⟨fun σ' H' => H' d = some (.frz od u) ∧ D.nx σ' (upd H' d u), fun v H' => H' d = some (.frz od u) ∧ D.rt v (upd H' d u), fun σ' H' => H' d = some (.frz od u) ∧ D.bk σ' (upd H' d u), fun σ' H' => H' d = some (.frz od u) ∧ D.ct σ' (upd H' d u)⟩ σ H1) : tLockS t D σ H :=
  ⟨⟨d, u, h.raw m, hm, fun od => k od _ fun L' m' => h.set m' rfl⟩⟩
/-! ### a tuple of any data opened -/
theorem Own.opnD {v : V} {ds : List PyData} (h : Own K H L P) (x : Dv1 K P v (.tuple ds)) : ∃ t vs, v = .ref t ∧ vs.length = ds.length ∧ Own K H L (.sq t vs :: .dp vs ds :: P) := by
  obtain ⟨M, nd, hl, hs, hp⟩ := h.ex
  cases x M hp with
  | @tup t xs _ hq ha =>
    refine ⟨t, xs, rfl, ha.len, M, nd, hl, hs, fun q hq' => ?_⟩
    rcases List.mem_cons.mp hq' with rfl | hq'
    · exact hq
    rcases List.mem_cons.mp hq' with rfl | hq'
    · exact ha
    · exact hp q hq'
theorem Own.opn2 {v : V} {x y : PyData} (h : Own K H L P) (q : Dv1 K P v (.tuple [x, y])) : ∃ t a b, v = .ref t ∧ Own K H L (.sq t [a, b] :: .dp [a] [x] :: .dp [b] [y] :: P) := by
  obtain ⟨t, vs, e, hl, o⟩ := h.opnD q
  match vs, hl with
  | [a, b], _ =>
    refine ⟨t, a, b, e, ?_⟩
    have dv : Dv K (.sq t [a, b] :: .dp [a, b] [x, y] :: P) [a, b] [x, y] := Dv.of (List.mem_cons_of_mem _ List.mem_cons_self)
    have o2 := o.dv1 dv.tl.hd
    have o3 := o2.dv1 (v := a) (d := x) (fun M hM => dv.hd M fun q hq => hM q (List.mem_cons_of_mem _ hq))
    refine o3.sub (Sb.refl _) fun r hr => ?_
    simp only [List.mem_cons] at hr ⊢
    rcases hr with rfl | rfl | rfl | hr
    · simp
    · simp
    · simp
    · simp [hr]
theorem Dv1.mono {v : V} {d : PyData} (h : Dv1 K P v d) (s : Ps P P') : Dv1 K P' v d := fun M q => h M fun r hr => q r (s r hr)
theorem Dv.mono {vs : List V} {ds : List PyData} (h : Dv K P vs ds) (s : Ps P P') : Dv K P' vs ds := fun M q => h M fun r hr => q r (s r hr)
theorem Dv1.intD {v : V} {i : Int} (h : Dv1 K P v (.int i)) (o : Own K H L P) : v = .int i := by
  cases o.one h with | int _ => rfl
abbrev rMax2 : List V → Hp → VK → Prop := fun xs H Q => ∃ i j, xs = [.int i, .int j] ∧ Q (.int (if j > i then j else i)) H
/-! ### comprehensions of dicts -/
section
variable {g : TG} {te tk tv : TE} {tt : TT} {wv : List Nat} {σ : L2.St} {D : Addr} {Qd : Hp → Prop}
theorem dc_it {J : It} {n : Nat} {G : Hp → Prop} {Y : Nat → Hp → V → Hp → Prop} (w : Walk J n G Y) (Pv : Nat → Hp → Prop) (h0 : Pv 0 (upd H1 D (.dK []))) (hG : ∀ i H, i ≤ n → Pv i H → G H)
    (hs : ∀ i x H H', i < n → Pv i H → Y i H x H' → g x (wipe σ wv) H' fun σ2 H2 => wipe σ2 wv = wipe σ wv ∧ tt σ2 H2 fun b H3 =>
      if b = true then tk σ2 H3 fun y H4 => tv σ2 H4 fun z H5 => ∃ kvs k, y = kV k ∧ H5 D = some (.dK kvs) ∧ kvs.length < sizeLine ∧ Pv (i + 1) (upd H5 D (.dK (putK kvs k z))) else Pv (i + 1) H3) (hd : ∀ H, Pv n H → Qd H) :
    ∃ W : Nat → Nat → Hp → Prop, (∃ m, W 0 m (upd H1 D (.dK []))) ∧ ∀ i m H, W i m H →
      (J.stop i H ∧ Qd H) ∨ (J.go i H ∧ ∃ Nx : Hp → Prop, (∀ H', Nx H' → ∃ m', m' < m ∧ W (i + 1) m' H') ∧ ∀ x H', J.yld i H x H' → g x (wipe σ wv) H' fun σ2 H2 => wipe σ2 wv = wipe σ wv ∧ tt σ2 H2 fun b H3 =>
        if b = true then tk σ2 H3 fun y H4 => tv σ2 H4 fun z H5 => ∃ kvs k, y = kV k ∧ H5 D = some (.dK kvs) ∧ kvs.length < sizeLine ∧ Nx (upd H5 D (.dK (putK kvs k z))) else Nx H3) := by
  refine ⟨fun i m H => m = n - i ∧ i ≤ n ∧ Pv i H, ⟨n, by simp, Nat.zero_le _, h0⟩, ?_⟩
  rintro i m H ⟨rfl, hi, p⟩
  have q := hG i H hi p
  by_cases hlt : i < n
  · refine .inr ⟨w.goes i H hlt q, Pv (i + 1), fun H' p' => ⟨n - (i + 1), by omega, rfl, hlt, p'⟩, fun x H' y => hs i x H H' hlt p (w.yields i H x H' hlt q y)⟩
  · have e : i = n := by omega
    subst e
    exact .inl ⟨w.stops H q, hd H p⟩
/-- a new dict by a walk, sifted; its keys are all different -/
theorem dc_siftW {α : Type} {J : It} {G : Hp → Prop} {Y : Nat → Hp → V → Hp → Prop} (zs : List α) (key : α → Int) (dat : α → PyData) (t : α → Bool) (nd : (zs.map key).Nodup) (w : Walk J zs.length G Y) (h : Own K H1 L P) (hD : H1 D = none) (hz : zs.length ≤ 10000)
    (ha : ∀ (H : Hp) (L' : List (Addr × Ob)) (P' : List Pf), (∀ p ∈ L, p ∈ L') → Ps P P' → Own K H L' P' → G H)
    (hs : ∀ (i : Nat) (z : α) (x : V) (H H' : Hp) (P' : List Pf) (kds : List (Key × PyData)) (Qn : Hp → Prop) (Qy : V → V → Hp → Prop), zs[i]? = some z → Y i H x H' → Ps P P' → Own K H ((D, .D kds) :: L) P' →
      (t z = false → ∀ (H'' : Hp) (P'' : List Pf), Ps P' P'' → Own K H'' ((D, .D kds) :: L) P'' → Qn H'') →
      (t z = true → ∀ (y : V) (H'' : Hp) (P'' : List Pf), Ps P' P'' → Own K H'' ((D, .D kds) :: L) P'' → Dv1 K P'' y (dat z) → Qy (.int (key z)) y H'') →
      g x (wipe σ wv) H' fun σ2 H2 => wipe σ2 wv = wipe σ wv ∧ tt σ2 H2 fun b H3 => if b = true then tk σ2 H3 fun y H4 => tv σ2 H4 fun z H5 => Qy y z H5 else Qn H3)
    (hd : ∀ (H' : Hp) (P' : List Pf), Ps P P' → Own K H' ((D, .D ((zs.filter t).map fun z => (Sum.inl (key z), dat z))) :: L) P' → Qd H') :
    ∃ W : Nat → Nat → Hp → Prop, (∃ m, W 0 m (upd H1 D (.dK []))) ∧ ∀ i m H, W i m H →
      (J.stop i H ∧ Qd H) ∨ (J.go i H ∧ ∃ Nx : Hp → Prop, (∀ H', Nx H' → ∃ m', m' < m ∧ W (i + 1) m' H') ∧ ∀ x H', J.yld i H x H' → g x (wipe σ wv) H' fun σ2 H2 => wipe σ2 wv = wipe σ wv ∧ tt σ2 H2 fun b H3 =>
        if b = true then tk σ2 H3 fun y H4 => tv σ2 H4 fun z H5 => ∃ kvs k, y = kV k ∧ H5 D = some (.dK kvs) ∧ kvs.length < sizeLine ∧ Nx (upd H5 D (.dK (putK kvs k z))) else Nx H3) := by
  refine dc_it w (fun i H => ∃ P', Ps P P' ∧ Own K H ((D, .D (((zs.take i).filter t).map fun z => (Sum.inl (key z), dat z))) :: L) P') ⟨P, Ps.refl, ?_⟩ (fun i H _ ⟨P', s, q⟩ => ha H _ P' (fun p m => List.mem_cons_of_mem _ m) s q) (fun i x H H' hi ⟨P', s, q⟩ y => ?_) (fun H ⟨P', s, q⟩ => hd H P' s (by rw [List.take_of_length_le (Nat.le_refl _)] at q; exact q))
  · have h2 := h.new hD (o := .dK []) rfl
    exact h2.closeD (kvs := []) List.mem_cons_self (by rw [List.take_zero]; rfl) (by rw [List.take_zero]; exact Dv.nil) .head
  · have et : zs.take (i + 1) = zs.take i ++ [zs[i]] := by rw [List.take_add_one, List.getElem?_eq_getElem hi]; rfl
    refine hs i zs[i] x H H' P' _ _ _ (List.getElem?_eq_getElem hi) y s q (fun tn H'' P'' s' q' => ⟨P'', fun r m => s' r (s r m), ?_⟩) (fun ty y H'' P'' s' q' dv => ?_)
    · rw [et, List.filter_append, List.filter_cons, tn]; simpa using q'
    · obtain ⟨kvs, hk, o1⟩ := q'.openD List.mem_cons_self
      have hlen : kvs.length = (((zs.take i).filter t).map fun z => ((Sum.inl (key z) : Key), dat z)).length := by simpa using congrArg List.length hk
      have hraw : H'' D = some (.dK kvs) := (o1 _ .head).raw List.mem_cons_self
      refine ⟨kvs, Sum.inl (key zs[i]), rfl, hraw, size_lt (by
        rw [hlen, List.length_map]
        exact Nat.le_trans (List.length_filter_le _ _) (by rw [List.length_take]; omega)), P'', fun r m => s' r (s r m), ?_⟩
      have nv : valD (((zs.take i).filter t).map fun z => (Sum.inl (key z), dat z)) (Sum.inl (key zs[i])) = none := by
        rw [valD_rows, Option.map_eq_none_iff, List.find?_eq_none]
        intro r hr e
        have hr' := (List.mem_filter.mp hr).1
        have e' : key r = key zs[i] := of_decide_eq_true e
        have nd2 : ((zs.take (i + 1)).map key).Nodup := (nd.sublist ((List.take_sublist _ _).map key))
        rw [et, List.map_append, List.nodup_append] at nd2
        exact nd2.2.2 (key r) (List.mem_map_of_mem hr') (key zs[i]) (by simp) e'
      have e2 : ((zs.take (i + 1)).filter t).map (fun z => ((Sum.inl (key z) : Key), dat z)) = putD (((zs.take i).filter t).map fun z => (Sum.inl (key z), dat z)) (Sum.inl (key zs[i])) (dat zs[i]) := by
        rw [putD_new nv, et, List.filter_append, List.filter_cons, ty]; simp
      rw [e2]
      have q3 := o1 _ .head
      refine Own.sub (q3.setO (o := .dK (putK kvs (Sum.inl (key zs[i])) y)) (ob := .D (putD (((zs.take i).filter t).map fun z => (Sum.inl (key z), dat z)) (Sum.inl (key zs[i])) (dat zs[i]))) .head rfl fun M hp => ⟨putK kvs (Sum.inl (key zs[i])) y, upd_same, putK_fst hk _ _ _, ?_⟩) (Sb.refl _) (Ps.skip Ps.refl)
      exact (Dv.put (P := .dp (kvs.map Prod.snd) ((((zs.take i).filter t).map fun z => ((Sum.inl (key z) : Key), dat z)).map Prod.snd) :: P'') (Dv.of List.mem_cons_self) hk (fun M h => dv M fun q hq => h q (List.mem_cons_of_mem _ hq))) M hp
end
theorem walk_ints {K : PySem.W.Frag} {a : Addr} {ns : List Int} : Walk (Itl K a) ns.length (fun H => SqL K H a (ns.map V.int)) (YAt (ns.map V.int)) := by
  have w := walk_list (K := K) (a := a) (xs := ns.map V.int)
  rw [List.length_map] at w
  exact w
/-! ### sorted lists of ints -/
theorem sorted_eq : ∀ {xs ys : List Int}, xs.Perm ys → xs.Pairwise (· ≤ ·) → ys.Pairwise (· ≤ ·) → xs = ys
  | [], ys, p, _, _ => by
    have := p.length_eq
    simp at this
    exact (List.eq_nil_of_length_eq_zero this.symm).symm
  | x :: xs, [], p, _, _ => by
    have := p.length_eq
    simp at this
  | x :: xs, y :: ys, p, hx, hy => by
    have h1 := List.pairwise_cons.mp hx
    have h2 := List.pairwise_cons.mp hy
    have e : x = y := by
      have a : x ∈ y :: ys := p.mem_iff.mp List.mem_cons_self
      have b : y ∈ x :: xs := p.mem_iff.mpr List.mem_cons_self
      rcases List.mem_cons.mp a with a | a
      · exact a
      rcases List.mem_cons.mp b with b | b
      · exact b.symm
      · have := h1.1 y b
        have := h2.1 x a
        omega
    subst e
    rw [sorted_eq (List.Perm.cons_inv p) h1.2 h2.2]
/-- the rising list -/
def srt (xs : List Int) : List Int := xs.mergeSort (fun a b => decide (a ≤ b))
theorem srt_perm (xs : List Int) : (srt xs).Perm xs := List.mergeSort_perm _ _
theorem srt_pw (xs : List Int) : (srt xs).Pairwise (· ≤ ·) := by
  have := List.pairwise_mergeSort (le := fun a b : Int => decide (a ≤ b)) (fun a b c h1 h2 => by simp at h1 h2 ⊢; omega) (fun a b => by simp; omega) xs
  exact this.imp fun h => by simpa using h
theorem srt_of {xs ys : List Int} (p : ys.Perm xs) (h : ys.Pairwise (· ≤ ·)) : ys = srt xs := sorted_eq (p.trans (srt_perm xs).symm) h (srt_pw xs)
theorem srt_eq {xs ys : List Int} (p : xs.Perm ys) : srt xs = srt ys := sorted_eq ((srt_perm xs).trans (p.trans (srt_perm ys).symm)) (srt_pw _) (srt_pw _)
theorem srt_len (xs : List Int) : (srt xs).length = xs.length := (srt_perm xs).length_eq
theorem srt_mem {xs : List Int} {x : Int} : x ∈ srt xs ↔ x ∈ xs := (srt_perm xs).mem_iff
theorem srt_filter (xs : List Int) (p : Int → Bool) : (srt xs).filter p = srt (xs.filter p) := srt_of ((srt_perm xs).filter p) ((srt_pw xs).filter p)
theorem srt_rev {xs ys : List Int} (p : ys.Perm xs) (h : ys.Pairwise (· ≥ ·)) : ys = (srt xs).reverse := by
  have e : ys.reverse = srt xs := srt_of ((List.reverse_perm ys).trans p) (List.pairwise_reverse.mpr h)
  rw [← e, List.reverse_reverse]
/-! ### a dict beside an empty one -/
theorem op_dE {X : Cx} (hu : X.A.units < cLine) (op : CmpOp) (t : Bool → Bool) (hop : (op = .Eq ∧ t = id) ∨ (op = .NotEq ∧ t = not)) : OpR X (compareOp op) (fun x y H Q => ∃ (a b : Addr) (kvs : List (Key × V)), x = .ref a ∧ y = .ref b ∧ H a = some (.dK kvs) ∧ H b = some (.dK []) ∧ Q (.bl (t kvs.isEmpty)) H) := by
  intro pins s σ H x y v u Q I rx ry hh
  obtain ⟨a, b, kvs, rfl, rfl, e1, e2, q⟩ := hh
  have rx' : v = Value.ref a := rx
  have ry' : u = Value.ref b := ry
  subst rx' ry'
  obtain ⟨_, n1, v1, r1, d1⟩ := (show ObjOk X.prog X.w H s.heap a (.dK kvs) from I.hok a _ e1)
  obtain ⟨_, n2, v2, r2, d2⟩ := (show ObjOk X.prog X.w H s.heap b (.dK []) from I.hok b _ e2)
  have l2 : v2.length = 0 := by rw [← r2.length]; rfl
  have l1 : v1.length = kvs.length := r1.length.symm
  have hz : v1.length = v2.length → kvs = [] := fun e => List.eq_nil_of_length_eq_zero (by omega)
  have hh : v1.length = v2.length → PySem.W.KeqHits X.A.in1 s v2 v1 true := fun e => by
    have := hz e
    subst this
    exact hits_all r2 r1 (fun p hp => nomatch hp)
  have eb : (v1.length == v2.length && true) = kvs.isEmpty := by
    rw [l1, l2]
    cases kvs <;> simp
  rcases hop with ⟨rfl, rfl⟩ | ⟨rfl, rfl⟩
  · exact PySem.W.keq_eq (r := true) n1 n2 d1 d2 hu hh (fin_bl I q (by rw [eb]; rfl))
  · exact PySem.W.keq_ne (r := true) n1 n2 d1 d2 hu hh (fin_bl I q (by rw [eb]))
theorem op_neE {X : Cx} (hu : X.A.units + 64 < cLine) : OpR X (compareOp .NotEq) (fun x y H Q => ∃ (a b : Addr) (kvs : List (Key × V)), x = .ref a ∧ y = .ref b ∧ H a = some (.dK kvs) ∧ H b = some (.dK []) ∧ Q (.bl (!kvs.isEmpty)) H) := op_dE (by omega) .NotEq not (.inr ⟨rfl, rfl⟩)
/-! ### strictly rising lists -/
theorem ris_eq : ∀ {xs ys : List Int}, (∀ z, z ∈ xs ↔ z ∈ ys) → xs.Pairwise (· < ·) → ys.Pairwise (· < ·) → xs = ys
  | [], [], _, _, _ => rfl
  | [], y :: ys, h, _, _ => nomatch (h y).mpr List.mem_cons_self
  | x :: xs, [], h, _, _ => nomatch (h x).mp List.mem_cons_self
  | x :: xs, y :: ys, h, hx, hy => by
    have h1 := List.pairwise_cons.mp hx
    have h2 := List.pairwise_cons.mp hy
    have e : x = y := by
      rcases List.mem_cons.mp ((h x).mp List.mem_cons_self) with a | a
      · exact a
      rcases List.mem_cons.mp ((h y).mpr List.mem_cons_self) with b | b
      · exact b.symm
      · have := h1.1 y b
        have := h2.1 x a
        omega
    subst e
    refine congrArg (x :: ·) (ris_eq (fun z => ?_) h1.2 h2.2)
    have := h z
    simp only [List.mem_cons] at this
    constructor
    · intro hz
      rcases this.mp (.inr hz) with e | e
      · have := h1.1 z hz; omega
      · exact e
    · intro hz
      rcases this.mpr (.inr hz) with e | e
      · have := h2.1 z hz; omega
      · exact e
/-- put in where it belongs, unless it is there -/
def insU (x : Int) : List Int → List Int
  | [] => [x]
  | y :: ys => if x < y then x :: y :: ys else if x = y then y :: ys else y :: insU x ys
/-- each once, rising -/
def uq (xs : List Int) : List Int := xs.foldr insU []
theorem insU_mem {x z : Int} : ∀ {l : List Int}, z ∈ insU x l ↔ z = x ∨ z ∈ l
  | [] => by simp [insU]
  | y :: ys => by
    unfold insU
    split
    · simp
    · split
      · rename_i h; subst h; simp
      · simp [insU_mem (l := ys)]
        constructor
        · rintro (h | h | h) <;> simp [h]
        · rintro (h | h | h) <;> simp [h]
theorem insU_pw {x : Int} : ∀ {l : List Int}, l.Pairwise (· < ·) → (insU x l).Pairwise (· < ·)
  | [], _ => by simp [insU]
  | y :: ys, h => by
    have h1 := List.pairwise_cons.mp h
    unfold insU
    split
    · rename_i hl
      refine List.pairwise_cons.mpr ⟨fun z hz => ?_, h⟩
      rcases List.mem_cons.mp hz with rfl | hz
      · exact hl
      · have := h1.1 z hz; omega
    · split
      · exact h
      · refine List.pairwise_cons.mpr ⟨fun z hz => ?_, insU_pw h1.2⟩
        rcases insU_mem.mp hz with rfl | hz
        · omega
        · exact h1.1 z hz
theorem uq_mem {xs : List Int} {z : Int} : z ∈ uq xs ↔ z ∈ xs := by
  induction xs with
  | nil => simp [uq]
  | cons x xs ih => simp only [uq, List.foldr_cons] at ih ⊢; rw [insU_mem, ih, List.mem_cons]
theorem uq_pw (xs : List Int) : (uq xs).Pairwise (· < ·) := by
  induction xs with
  | nil => simp [uq]
  | cons x xs ih => exact insU_pw ih
theorem uq_of {xs ys : List Int} (h : ys.Pairwise (· < ·)) (k : ∀ z, z ∈ ys ↔ z ∈ xs) : ys = uq xs := ris_eq (fun z => by rw [k, uq_mem]) h (uq_pw xs)
theorem insU_len (x : Int) : ∀ l : List Int, (insU x l).length ≤ l.length + 1
  | [] => by simp [insU]
  | y :: ys => by
    have := insU_len x ys
    unfold insU
    split
    · simp
    · split <;> simp <;> omega
theorem uq_len (xs : List Int) : (uq xs).length ≤ xs.length := by
  induction xs with
  | nil => simp [uq]
  | cons x xs ih =>
    simp only [uq, List.foldr_cons, List.length_cons] at ih ⊢
    exact Nat.le_trans (insU_len _ _) (by omega)
end Hx

set_option Elab.async false
set_option linter.all false
set_option maxRecDepth 100000
set_option maxHeartbeats 4000000
/-! HsSetR: set(xs), xs a list or a tuple of ints; sorted of it is the rising list of what stands in it -/
namespace Hx
open PySem PySem.Spec PyProof.Rows L2
/-- an empty set as it is laid -/
abbrev sO (w : World) : Obj := { cls := .type "set", dict := none, data := .set #[] 0 (.fresh 0 0 (!w.params.followText "set-order")) }
abbrev h1 (w : World) (h : Heap) : Heap := h.push (sO w)
section
variable {P : Program} {w : World} {A : Around} {E : Value → Shared → Prop} {s : Shared}
theorem set_of_list {l : Addr} {xs : Array Value} (ns : List Int) {Q : Value → Shared → Prop} (nh : A.handled = none) (hl : s.heap.IsList l xs) (hx : IntsAre xs.toList ns) (few : ns.length + 1 < scanBound)
    (k : ∀ (g : Heap) (t c : Nat), SetR w g s.heap.objs.size (fun j => decide (j ∈ ns)) c → c ≤ ns.length → (∀ b o, s.heap.get? b = some o → g.get? b = some o) → Q (.ref s.heap.objs.size) { s with heap := g, toks := t }) :
    wpAny (model P w) A (call (.type "set") [.ref l]) Q E s := by
  have sz : xs.size = ns.length := by have z := IntsAre.length hx; rwa [Array.length_toList] at z
  obtain ⟨_, _, e_mro⟩ := F.called_set.mro
  have e1 := F.called_set.made; have e2 := F.called_set.sub; have e3 := F.called_set.notType; have e4 := F.called_set.canCreate
  have e5 := F.typeCall_set_1 (.ref l)
  apply wpAny_call; apply codeAny_of_tree
  show wpAny _ _ (callAny (.type "set") _) _ _ _
  apply wpAny_pure; refine ⟨Code.quiet_builtin _ (by decide +kernel), ?_⟩; apply codeAny_builtin F.entry_type_call
  rw [Around.under_plain (weight_type_call_type "set" [.ref l] []) rfl]
  repeat (any_goals (first | assumption | wp_step))
  have made := code_set_led1 (P := P) (w := w) (A := A.in1) (E := E) (s := s) (.ref l) (Q₁ := fun z t => z = .ref s.heap.objs.size ∧ t = { s with heap := h1 w s.heap }) ⟨rfl, rfl⟩
  refine codeAny_mono made (fun r t hr => ?_)
  match r, hr with
  | .error _, hr => exact hr
  | .ok .next, hr => exact hr.elim
  | .ok .brk, hr => exact hr.elim
  | .ok .cont, hr => exact hr.elim
  | .ok (.ret z), hr =>
    obtain ⟨rfl, rfl⟩ := hr
    have new : (h1 w s.heap).get? s.heap.objs.size = some (sO w) := Heap.get?_push_size _ rfl
    have ty : Shared.TypeIs { s with heap := h1 w s.heap } (.ref s.heap.objs.size) "set" := ⟨_, new, rfl⟩
    have i1 := F.called_set.init.lookup
    have i2 := F.called_set.init.bind (.ref s.heap.objs.size)
    repeat (any_goals (first | assumption | wp_step))
    apply codeAny_mono (codeAny_call_builtin (R := wants (fun z t => z = .none ∧ ∃ (g : Heap) (n c : Nat), t = { s with heap := g, toks := n } ∧ SetR w g s.heap.objs.size (fun j => decide (j ∈ ns)) c ∧ c ≤ ns.length ∧ ∀ b o, s.heap.get? b = some o → g.get? b = some o) E) F.called_set.init.plain F.entry_set_init (check_set_init_1 ty ?_))
    · intro r t hr
      match r, hr with
      | .error _, hr => exact hr
      | .ok .next, hr => exact hr.elim
      | .ok .brk, hr => exact hr.elim
      | .ok .cont, hr => exact hr.elim
      | .ok (.ret z), hr =>
        obtain ⟨rfl, g, n, c, rfl, q1, q2, q3⟩ := hr
        repeat (any_goals (first | assumption | wp_step))
        exact k _ _ _ q1 q2 q3
    · obtain ⟨ob, e6, e7, m, e8⟩ := hl
      obtain ⟨c0, d0, dat, sl⟩ := ob
      simp only at e7 e8
      subst e7; subst e8
      have old := Heap.get?_push_of_some (sO w) e6
      have s1 := F.sub_list_set; have s2 := F.sub_list_frozenset
      have s3 : (Value.type "list" == Value.type "dict") = false := by decide
      have isl : (h1 w s.heap).IsList l xs := ⟨_, old, rfl, m, rfl⟩
      unfold Builtin.«set.__init__» noKeywords Builtin.Frozenset.updateFrom
      generalize pI : pyIter = PI
      wp_walk
      subst pI
      refine wpAny_pyIter_list isl ?_
      refine wpAny_bind (wpAny_runValue ?_)
      have lt : l < s.heap.objs.size := Heap.lt_size e6
      have z1 : (h1 w s.heap).objs.size = s.heap.objs.size + 1 := Heap.size_push ..
      have n1 : l ≠ (h1 w s.heap).objs.size := by rw [z1]; exact Nat.ne_of_lt (Nat.lt_succ_of_lt lt)
      have n2 : s.heap.objs.size ∉ [(h1 w s.heap).objs.size, l] := by
        intro q
        rcases List.mem_cons.mp q with q | q
        · rw [z1] at q; exact absurd q (Nat.ne_of_lt (Nat.lt_succ_self _))
        · exact absurd (List.mem_singleton.mp q).symm (Nat.ne_of_lt lt)
      have nh3 : A.in1.in1.in1.handled = none := by simp [nh]
      have val : ∀ (i : Nat) (v : Value), xs[i]? = some v → ∃ z t, ns[i]? = some z ∧ v = .int z t := fun i v q => by
        have lti : i < ns.length := sz ▸ (Array.getElem?_eq_some_iff.mp q).1
        obtain ⟨t, e⟩ := PyProof.Rows.IntsAre.int_at hx i v (by rwa [Array.getElem?_toList])
        refine ⟨_, t, List.getElem?_eq_getElem lti, e.trans ?_⟩
        simp [List.getD_eq_getElem?_getD, List.getElem?_eq_getElem lti]
      refine set_update_ints ((Walks.list nh3 _ l n1 xs).toS) s.heap.objs.size n2 ns sz few val (xs.size - 0) 0 _ (by omega) (Nat.zero_le _) ⟨⟨_, Heap.get?_push_size _ rfl, rfl, rfl⟩, isl.push _⟩ ⟨0, Nat.le_refl 0, setR_new_at (Heap.get?_push_of_some _ new)⟩ ?_
      intro t c mv q1 q2
      obtain ⟨g, gn, dr, tk, os⟩ := t
      obtain rfl : gn = s.gens := mv.gens
      obtain rfl : dr = s.drawn := mv.drawn
      obtain rfl : os = s.os := mv.os
      show wpAny _ _ _ _ _ _
      apply wpAny_pure
      show wpAny _ _ (ret Value.none) _ _ _
      rw [sz] at q1
      apply wpAny_pure
      refine ⟨rfl, g, tk, c, rfl, q2, q1, fun b o e => ?_⟩
      have b0 : b < s.heap.objs.size := Heap.lt_size e
      refine mv.heap b o (fun q => ?_) (Heap.get?_push_of_some _ (Heap.get?_push_of_some _ e))
      rcases List.mem_cons.mp q with q | q
      · exact Nat.ne_of_lt b0 q
      · have q := List.mem_singleton.mp q
        rw [z1] at q
        exact Nat.ne_of_lt (Nat.lt_succ_of_lt b0) q
end
/-- set(xs) -/
def rSetL (K : PySem.W.Frag) (w : World) : List V → Hp → VK → Prop := fun vs H Q => ∃ (a : Addr) (ns : List Int), vs = [.ref a] ∧ SqL K H a (ns.map V.int) ∧ ns.length ≤ 1000 ∧ ∀ (p : Addr) (c : Nat), c ≤ ns.length → H p = none → Q (.ref p) (upd H p (SetO w p (fun j => decide (j ∈ ns)) c))
theorem cr_setL {X : Cx} (hc : X.calm = true) : CallR X (.type "set") (rSetL X.K X.w) := by
  intro pins s σ H vs us Q I r h
  obtain ⟨a, ns, rfl, hs, hl, q⟩ := h
  obtain ⟨its, rv, pl, _⟩ := I.list hs
  rw [Vals.ref1 r]
  refine set_of_list ns (I.ok.hd hc) pl.isList (by simpa using ints_of_vals rv) (by unfold scanBound; omega) fun g t c R hcn k => ?_
  refine ⟨.ref _, upd H s.heap.objs.size (SetO X.w s.heap.objs.size (fun j => decide (j ∈ ns)) c), I.laid (t' := t) (fun b u e => k b u e) (Nat.le_refl _) (setO_new R), rfl, q _ c hcn (I.hok.fresh (Nat.le_refl _))⟩
end Hx

set_option Elab.async false
set_option linter.all false
/-! HsSet: sets and dicts; scopes of comprehensions within comprehensions -/
namespace Hx
open PySem PySem.Spec PyProof.Rows L2
def stVal : Stmt → Expr
  | .Assign _ v _ => v
  | _ => .Constant .none 0 ⟨0, 0, 0, 0⟩
def dcScope : Expr → Scope
  | .DictComp _ _ _ sc _ => sc
  | .ListComp _ _ sc _ => sc
  | _ => ⟨.function, [], false, false, []⟩
theorem walk_intsT {K : PySem.W.Frag} {a : Addr} {ns : List Int} : Walk (Itt K a) ns.length (fun H => SqT K H a (ns.map V.int)) (YAt (ns.map V.int)) := by
  have w := walk_tup (K := K) (a := a) (xs := ns.map V.int)
  rw [List.length_map] at w
  exact w
theorem inV_ints (z : Int) (ns : List Int) : inV (V.int z) (ns.map V.int) = decide (z ∈ ns) := by
  induction ns with
  | nil => rfl
  | cons n ns ih =>
    simp only [List.map_cons, inV, List.any_cons] at ih ⊢
    rw [ih]
    by_cases h : z = n
    · subst h; simp [eqV]
    · have h2 : ¬ n = z := fun e => h e.symm
      simp [eqV, h, h2]
theorem inV_non (ns : List Int) : inV V.non (ns.map V.int) = false := by
  induction ns with
  | nil => rfl
  | cons n ns ih =>
    simp only [List.map_cons, inV, List.any_cons] at ih ⊢
    rw [ih]
    rfl
theorem flat_ints (ns : List Int) : (ns.map V.int).all flatV = true := by
  rw [List.all_eq_true]
  intro x hx
  obtain ⟨z, _, rfl⟩ := List.mem_map.mp hx
  rfl
/-- what a block's scope is for the blocks within it: its free names are cells of the def -/
def reScope (s : Scope) : Scope := { s with names := s.names.map fun (n, k) => if k == .free then (n, .cell) else (n, k) }
end Hx

set_option Elab.async false
set_option linter.all false
set_option maxRecDepth 100000
set_option maxHeartbeats 8000000

namespace K72
open PySem PySem.Spec PyProof.Rows L2 Hx
def top (i : Nat) : Stmt := PySem.Challenge.pw_orderlycore_k72_whole_stations_by_waking.main.body.getD i (.Pass ⟨0, 0, 0, 0⟩)
abbrev s_is_integer : Stmt := top 14
theorem sc_is_integer : FnScope ["value"] ["value"] (defScope s_is_integer) := ⟨rfl, rfl, rfl, by decide +kernel, rfl, by decide +kernel, by decide +kernel⟩
abbrev s_is_count : Stmt := top 15
theorem sc_is_count : FnScope ["value"] ["value"] (defScope s_is_count) := ⟨rfl, rfl, rfl, by decide +kernel, rfl, by decide +kernel, by decide +kernel⟩
abbrev s_is_between : Stmt := top 16
theorem sc_is_between : FnScope ["value", "least", "most"] ["value", "least", "most"] (defScope s_is_between) := ⟨rfl, rfl, rfl, by decide +kernel, rfl, by decide +kernel, by decide +kernel⟩
abbrev s_is_list : Stmt := top 17
theorem sc_is_list : FnScope ["value"] ["value"] (defScope s_is_list) := ⟨rfl, rfl, rfl, by decide +kernel, rfl, by decide +kernel, by decide +kernel⟩
abbrev s_need_many : Stmt := top 18
theorem sc_need_many : FnScope ["value", "least", "most"] ["value", "least", "most"] (defScope s_need_many) := ⟨rfl, rfl, rfl, by decide +kernel, rfl, by decide +kernel, by decide +kernel⟩
abbrev s_need_number : Stmt := top 19
theorem sc_need_number : FnScope ["value"] ["value"] (defScope s_need_number) := ⟨rfl, rfl, rfl, by decide +kernel, rfl, by decide +kernel, by decide +kernel⟩
abbrev s_drop_from : Stmt := top 20
theorem sc_drop_from : FnScope ["rows", "number", "one", "gone"] ["rows", "number"] (defScope s_drop_from) := ⟨rfl, rfl, rfl, by decide +kernel, rfl, by decide +kernel, by decide +kernel⟩
abbrev s_Whims_init : Stmt := inClass (top 24) 0
theorem sc_Whims_init : FnScope ["self", "numbers"] ["self", "numbers"] (defScope s_Whims_init) := ⟨rfl, rfl, rfl, by decide +kernel, rfl, by decide +kernel, by decide +kernel⟩
abbrev s_Whims_take : Stmt := inClass (top 24) 1
theorem sc_Whims_take : FnScope ["self", "many", "at"] ["self", "many"] (defScope s_Whims_take) := ⟨rfl, rfl, rfl, by decide +kernel, rfl, by decide +kernel, by decide +kernel⟩
abbrev s_Whims_taken : Stmt := inClass (top 24) 2
theorem sc_Whims_taken : FnScope ["self"] ["self"] (defScope s_Whims_taken) := ⟨rfl, rfl, rfl, by decide +kernel, rfl, by decide +kernel, by decide +kernel⟩
abbrev s_are_whims : Stmt := top 25
theorem sc_are_whims : FnScope ["value", "number"] ["value"] (defScope s_are_whims) := ⟨rfl, rfl, rfl, by decide +kernel, rfl, by decide +kernel, by decide +kernel⟩
abbrev s_need_whims : Stmt := top 26
theorem sc_need_whims : FnScope ["value"] ["value"] (defScope s_need_whims) := ⟨rfl, rfl, rfl, by decide +kernel, rfl, by decide +kernel, by decide +kernel⟩
abbrev s_Stations_init : Stmt := inClass (top 32) 0
theorem sc_Stations_init : FnScope ["self", "many"] ["self", "many"] (defScope s_Stations_init) := ⟨rfl, rfl, rfl, by decide +kernel, rfl, by decide +kernel, by decide +kernel⟩
abbrev s_Stations_held : Stmt := inClass (top 32) 2
theorem sc_Stations_held : FnScope ["self"] ["self"] (defScope s_Stations_held) := ⟨rfl, rfl, rfl, by decide +kernel, rfl, by decide +kernel, by decide +kernel⟩
abbrev s_Stations_put : Stmt := inClass (top 32) 3
theorem sc_Stations_put : FnScope ["self", "number", "reads", "ready", "waits", "place"] ["self", "number", "reads", "ready"] (defScope s_Stations_put) := ⟨rfl, rfl, rfl, by decide +kernel, rfl, by decide +kernel, by decide +kernel⟩
abbrev s_Stations_woken : Stmt := inClass (top 32) 4
theorem sc_Stations_woken : FnScope ["self", "at", "number", "reads", "waits", "place"] ["self", "at"] (defScope s_Stations_woken) := ⟨rfl, rfl, rfl, by decide +kernel, rfl, by decide +kernel, by decide +kernel⟩
abbrev s_Stations_ready : Stmt := inClass (top 32) 5
theorem sc_Stations_ready : FnScope ["self", "number"] ["self"] (defScope s_Stations_ready) := ⟨rfl, rfl, rfl, by decide +kernel, rfl, by decide +kernel, by decide +kernel⟩
abbrev s_Stations_waits_for : Stmt := inClass (top 32) 6
theorem sc_Stations_waits_for : FnScope ["self", "number"] ["self", "number"] (defScope s_Stations_waits_for) := ⟨rfl, rfl, rfl, by decide +kernel, rfl, by decide +kernel, by decide +kernel⟩
abbrev s_Stations_reads : Stmt := inClass (top 32) 7
theorem sc_Stations_reads : FnScope ["self", "number"] ["self", "number"] (defScope s_Stations_reads) := ⟨rfl, rfl, rfl, by decide +kernel, rfl, by decide +kernel, by decide +kernel⟩
abbrev s_Stations_picked : Stmt := inClass (top 32) 8
theorem sc_Stations_picked : FnScope ["self", "number", "reads"] ["self", "number"] (defScope s_Stations_picked) := ⟨rfl, rfl, rfl, by decide +kernel, rfl, by decide +kernel, by decide +kernel⟩
abbrev s_Stations_chosen : Stmt := inClass (top 32) 9
theorem sc_Stations_chosen : FnScope ["self", "oldest", "whims", "twist", "ready"] ["self", "oldest", "whims", "twist"] (defScope s_Stations_chosen) := ⟨rfl, rfl, rfl, by decide +kernel, rfl, by decide +kernel, by decide +kernel⟩
abbrev s_Stations_numbers : Stmt := inClass (top 32) 10
theorem sc_Stations_numbers : FnScope ["self"] ["self"] (defScope s_Stations_numbers) := ⟨rfl, rfl, rfl, by decide +kernel, rfl, by decide +kernel, by decide +kernel⟩
abbrev s_Stations_dropped : Stmt := inClass (top 32) 11
theorem sc_Stations_dropped : FnScope ["self", "number"] ["self", "number"] (defScope s_Stations_dropped) := ⟨rfl, rfl, rfl, by decide +kernel, rfl, by decide +kernel, by decide +kernel⟩
abbrev s_Stations_copy : Stmt := inClass (top 32) 12
theorem sc_Stations_copy : FnScope ["self", "made"] ["self"] (defScope s_Stations_copy) := ⟨rfl, rfl, rfl, by decide +kernel, rfl, by decide +kernel, by decide +kernel⟩
abbrev s_Stationsrow : Stmt := inClass (top 32) 14
theorem sc_Stationsrow : FnScope ["self", "number"] ["self", "number"] (defScope s_Stationsrow) := ⟨rfl, rfl, rfl, by decide +kernel, rfl, by decide +kernel, by decide +kernel⟩
abbrev s__is_register_place : Stmt := top 33
theorem sc__is_register_place : FnScope ["value"] ["value"] (defScope s__is_register_place) := ⟨rfl, rfl, rfl, by decide +kernel, rfl, by decide +kernel, by decide +kernel⟩
abbrev s__need_reads : Stmt := top 34
theorem sc__need_reads : FnScope ["value", "most", "place"] ["value", "most"] (defScope s__need_reads) := ⟨rfl, rfl, rfl, by decide +kernel, rfl, by decide +kernel, by decide +kernel⟩
abbrev s_Lpot : Stmt := top 36
theorem sc_Lpot : FnScope ["_law_script", "_law_k", "_law_cell", "_law_mixed"] ["_law_script", "_law_k"] (defScope s_Lpot) := ⟨rfl, rfl, rfl, by decide +kernel, rfl, by decide +kernel, by decide +kernel⟩
abbrev s_Ldraw : Stmt := top 37
theorem sc_Ldraw : FnScope ["_law_pot_here", "_law_sides", "_law_digit"] ["_law_pot_here", "_law_sides"] (defScope s_Ldraw) := ⟨rfl, rfl, rfl, by decide +kernel, rfl, by decide +kernel, by decide +kernel⟩
abbrev s_Lpick : Stmt := top 38
theorem sc_Lpick : FnScope ["_law_pot_here", "_law_some"] ["_law_pot_here", "_law_some"] (defScope s_Lpick) := ⟨rfl, rfl, rfl, by decide +kernel, rfl, by decide +kernel, by decide +kernel⟩
abbrev s_Lseen : Stmt := top 39
theorem sc_Lseen : FnScope ["_law_rows", "_law_own", "_law_numbers", "_law_number"] ["_law_rows", "_law_own"] (defScope s_Lseen) := ⟨rfl, rfl, rfl, by decide +kernel, rfl, by decide +kernel, by decide +kernel⟩
abbrev s_Lplaces : Stmt := top 40
theorem sc_Lplaces : FnScope ["_law_pot_here", "_law_most", "_law_found", "_law_turn"] ["_law_pot_here", "_law_most"] (defScope s_Lplaces) := ⟨rfl, rfl, rfl, by decide +kernel, rfl, by decide +kernel, by decide +kernel⟩
abbrev s_Ldue : Stmt := top 41
theorem sc_Ldue : FnScope ["_law_own", "_law_oldest", "_law_numbers", "_law_taken", "_law_twist", "_law_ready", "_law_whim", "_law_number"] ["_law_own", "_law_oldest", "_law_numbers", "_law_taken", "_law_twist"] (defScope s_Ldue) := ⟨rfl, rfl, rfl, by decide +kernel, rfl, by decide +kernel, by decide +kernel⟩
abbrev s_Lchosen_right : Stmt := top 42
theorem sc_Lchosen_right : FnScope ["_law_pot_here", "_law_rows", "_law_own", "_law_whims", "_law_numbers", "_law_twist", "_law_taken", "_law_oldest", "_law_due_here", "_law_many"] ["_law_pot_here", "_law_rows", "_law_own", "_law_whims", "_law_numbers"] (defScope s_Lchosen_right) := ⟨rfl, rfl, rfl, by decide +kernel, rfl, by decide +kernel, by decide +kernel⟩
abbrev s_Lput : Stmt := top 43
theorem sc_Lput : FnScope ["_law_pot_here", "_law_rows", "_law_own", "_law_number", "_law_most", "_law_reads", "_law_ready", "_law_waits", "_law_place"] ["_law_pot_here", "_law_rows", "_law_own", "_law_number", "_law_most"] (defScope s_Lput) := ⟨rfl, rfl, rfl, by decide +kernel, rfl, by decide +kernel, by decide +kernel⟩
abbrev s_Lright : Stmt := top 44
theorem sc_Lright : FnScope ["_law_pot_here", "_law_most", "_law_own", "_law_numbers", "_law_turn", "_law_rows", "_law_whims", "_law_aside", "_law_way", "_law_place", "_law_number", "_law_reads", "_law_waits", "_law_one", "_law_gone"] ["_law_pot_here"] (defScope s_Lright) := ⟨rfl, rfl, rfl, by decide +kernel, rfl, by decide +kernel, by decide +kernel⟩
abbrev s_law : Stmt := top 45
theorem sc_law : FnScope ["_law_script"] ["_law_script"] (defScope s_law) := ⟨rfl, rfl, rfl, by decide +kernel, rfl, by decide +kernel, by decide +kernel⟩
abbrev F_Whims (v0 v1 : V) : List (Str × V) := [("_numbers", v0), ("_position", v1)]
theorem gt_Whims_numbers {v0 v1 : V} : (F_Whims v0 v1).lookup ("_numbers" : Str) = some v0 := rfl
theorem pu_Whims_numbers {v0 v1 u : V} : putF "_numbers" u (F_Whims v0 v1) = F_Whims u v1 := rfl
theorem pi_Whims_numbers {v0 : V} : putF "_numbers" v0 [] = ([("_numbers", v0)] : List (Str × V)) := rfl
theorem gt_Whims_position {v0 v1 : V} : (F_Whims v0 v1).lookup ("_position" : Str) = some v1 := rfl
theorem pu_Whims_position {v0 v1 u : V} : putF "_position" u (F_Whims v0 v1) = F_Whims v0 u := rfl
theorem pi_Whims_position {v0 v1 : V} : putF "_position" v1 [("_numbers", v0)] = F_Whims v0 v1 := rfl
abbrev F_Stations (v0 v1 : V) : List (Str × V) := [("_many", v0), ("_rows", v1)]
theorem gt_Stations_many {v0 v1 : V} : (F_Stations v0 v1).lookup ("_many" : Str) = some v0 := rfl
theorem pu_Stations_many {v0 v1 u : V} : putF "_many" u (F_Stations v0 v1) = F_Stations u v1 := rfl
theorem pi_Stations_many {v0 : V} : putF "_many" v0 [] = ([("_many", v0)] : List (Str × V)) := rfl
theorem gt_Stations_rows {v0 v1 : V} : (F_Stations v0 v1).lookup ("_rows" : Str) = some v1 := rfl
theorem pu_Stations_rows {v0 v1 u : V} : putF "_rows" u (F_Stations v0 v1) = F_Stations v0 u := rfl
theorem pi_Stations_rows {v0 v1 : V} : putF "_rows" v1 [("_many", v0)] = F_Stations v0 v1 := rfl
structure Txt (w : World) (K : PySem.W.Frag) (mg : Str → Option Value) where
  C_Whims : Addr
  cl_Whims : Cls K C_Whims
  g_Whims : mg "Whims" = some (.ref C_Whims)
  n_Whims_numbers : NoAttr K C_Whims "_numbers"
  n_Whims_position : NoAttr K C_Whims "_position"
  C_Stations : Addr
  cl_Stations : Cls K C_Stations
  g_Stations : mg "Stations" = some (.ref C_Stations)
  n_Stations_many : NoAttr K C_Stations "_many"
  n_Stations_rows : NoAttr K C_Stations "_rows"
  f_is_integer : Addr
  fd_is_integer : FuncData
  F_is_integer : Fun K "is_integer" "is_integer" s_is_integer f_is_integer fd_is_integer
  g_is_integer : mg "is_integer" = some (.ref f_is_integer)
  b_is_integer : Binds K fd_is_integer ["value"] []
  f_is_count : Addr
  fd_is_count : FuncData
  F_is_count : Fun K "is_count" "is_count" s_is_count f_is_count fd_is_count
  g_is_count : mg "is_count" = some (.ref f_is_count)
  b_is_count : Binds K fd_is_count ["value"] []
  f_is_between : Addr
  fd_is_between : FuncData
  F_is_between : Fun K "is_between" "is_between" s_is_between f_is_between fd_is_between
  g_is_between : mg "is_between" = some (.ref f_is_between)
  b_is_between : Binds K fd_is_between ["value", "least", "most"] []
  f_is_list : Addr
  fd_is_list : FuncData
  F_is_list : Fun K "is_list" "is_list" s_is_list f_is_list fd_is_list
  g_is_list : mg "is_list" = some (.ref f_is_list)
  b_is_list : Binds K fd_is_list ["value"] []
  f_need_many : Addr
  fd_need_many : FuncData
  F_need_many : Fun K "need_many" "need_many" s_need_many f_need_many fd_need_many
  g_need_many : mg "need_many" = some (.ref f_need_many)
  b_need_many : Binds K fd_need_many ["value", "least", "most"] []
  f_need_number : Addr
  fd_need_number : FuncData
  F_need_number : Fun K "need_number" "need_number" s_need_number f_need_number fd_need_number
  g_need_number : mg "need_number" = some (.ref f_need_number)
  b_need_number : Binds K fd_need_number ["value"] []
  f_drop_from : Addr
  fd_drop_from : FuncData
  F_drop_from : Fun K "drop_from" "drop_from" s_drop_from f_drop_from fd_drop_from
  g_drop_from : mg "drop_from" = some (.ref f_drop_from)
  b_drop_from : Binds K fd_drop_from ["rows", "number"] []
  f_Whims_init : Addr
  fd_Whims_init : FuncData
  F_Whims_init : Fun K "__init__" "Whims.__init__" s_Whims_init f_Whims_init fd_Whims_init
  b_Whims_init : Binds K fd_Whims_init ["self", "numbers"] []
  mk_Whims : Mk K C_Whims f_Whims_init
  f_Whims_take : Addr
  fd_Whims_take : FuncData
  F_Whims_take : Fun K "take" "Whims.take" s_Whims_take f_Whims_take fd_Whims_take
  b_Whims_take : Binds K fd_Whims_take ["self", "many"] []
  me_Whims_take : Meth K C_Whims "take" f_Whims_take
  f_Whims_taken : Addr
  fd_Whims_taken : FuncData
  F_Whims_taken : Fun K "taken" "Whims.taken" s_Whims_taken f_Whims_taken fd_Whims_taken
  b_Whims_taken : Binds K fd_Whims_taken ["self"] []
  pa_Whims_taken : Addr
  p_Whims_taken : PropOf K C_Whims "taken" pa_Whims_taken f_Whims_taken
  f_are_whims : Addr
  fd_are_whims : FuncData
  F_are_whims : Fun K "are_whims" "are_whims" s_are_whims f_are_whims fd_are_whims
  g_are_whims : mg "are_whims" = some (.ref f_are_whims)
  b_are_whims : Binds K fd_are_whims ["value"] []
  f_need_whims : Addr
  fd_need_whims : FuncData
  F_need_whims : Fun K "need_whims" "need_whims" s_need_whims f_need_whims fd_need_whims
  g_need_whims : mg "need_whims" = some (.ref f_need_whims)
  b_need_whims : Binds K fd_need_whims ["value"] []
  f_Stations_init : Addr
  fd_Stations_init : FuncData
  F_Stations_init : Fun K "__init__" "Stations.__init__" s_Stations_init f_Stations_init fd_Stations_init
  b_Stations_init : Binds K fd_Stations_init ["self", "many"] []
  mk_Stations : Mk K C_Stations f_Stations_init
  f_Stations_held : Addr
  fd_Stations_held : FuncData
  F_Stations_held : Fun K "held" "Stations.held" s_Stations_held f_Stations_held fd_Stations_held
  b_Stations_held : Binds K fd_Stations_held ["self"] []
  pa_Stations_held : Addr
  p_Stations_held : PropOf K C_Stations "held" pa_Stations_held f_Stations_held
  f_Stations_put : Addr
  fd_Stations_put : FuncData
  F_Stations_put : Fun K "put" "Stations.put" s_Stations_put f_Stations_put fd_Stations_put
  b_Stations_put : Binds K fd_Stations_put ["self", "number", "reads", "ready"] []
  me_Stations_put : Meth K C_Stations "put" f_Stations_put
  f_Stations_woken : Addr
  fd_Stations_woken : FuncData
  F_Stations_woken : Fun K "woken" "Stations.woken" s_Stations_woken f_Stations_woken fd_Stations_woken
  b_Stations_woken : Binds K fd_Stations_woken ["self", "at"] []
  me_Stations_woken : Meth K C_Stations "woken" f_Stations_woken
  f_Stations_ready : Addr
  fd_Stations_ready : FuncData
  F_Stations_ready : Fun K "ready" "Stations.ready" s_Stations_ready f_Stations_ready fd_Stations_ready
  b_Stations_ready : Binds K fd_Stations_ready ["self"] []
  me_Stations_ready : Meth K C_Stations "ready" f_Stations_ready
  f_Stations_waits_for : Addr
  fd_Stations_waits_for : FuncData
  F_Stations_waits_for : Fun K "waits_for" "Stations.waits_for" s_Stations_waits_for f_Stations_waits_for fd_Stations_waits_for
  b_Stations_waits_for : Binds K fd_Stations_waits_for ["self", "number"] []
  me_Stations_waits_for : Meth K C_Stations "waits_for" f_Stations_waits_for
  f_Stations_reads : Addr
  fd_Stations_reads : FuncData
  F_Stations_reads : Fun K "reads" "Stations.reads" s_Stations_reads f_Stations_reads fd_Stations_reads
  b_Stations_reads : Binds K fd_Stations_reads ["self", "number"] []
  me_Stations_reads : Meth K C_Stations "reads" f_Stations_reads
  f_Stations_picked : Addr
  fd_Stations_picked : FuncData
  F_Stations_picked : Fun K "picked" "Stations.picked" s_Stations_picked f_Stations_picked fd_Stations_picked
  b_Stations_picked : Binds K fd_Stations_picked ["self", "number"] []
  me_Stations_picked : Meth K C_Stations "picked" f_Stations_picked
  f_Stations_chosen : Addr
  fd_Stations_chosen : FuncData
  F_Stations_chosen : Fun K "chosen" "Stations.chosen" s_Stations_chosen f_Stations_chosen fd_Stations_chosen
  b_Stations_chosen : Binds K fd_Stations_chosen ["self", "oldest", "whims", "twist"] []
  me_Stations_chosen : Meth K C_Stations "chosen" f_Stations_chosen
  f_Stations_numbers : Addr
  fd_Stations_numbers : FuncData
  F_Stations_numbers : Fun K "numbers" "Stations.numbers" s_Stations_numbers f_Stations_numbers fd_Stations_numbers
  b_Stations_numbers : Binds K fd_Stations_numbers ["self"] []
  me_Stations_numbers : Meth K C_Stations "numbers" f_Stations_numbers
  f_Stations_dropped : Addr
  fd_Stations_dropped : FuncData
  F_Stations_dropped : Fun K "dropped" "Stations.dropped" s_Stations_dropped f_Stations_dropped fd_Stations_dropped
  b_Stations_dropped : Binds K fd_Stations_dropped ["self", "number"] []
  me_Stations_dropped : Meth K C_Stations "dropped" f_Stations_dropped
  f_Stations_copy : Addr
  fd_Stations_copy : FuncData
  F_Stations_copy : Fun K "copy" "Stations.copy" s_Stations_copy f_Stations_copy fd_Stations_copy
  b_Stations_copy : Binds K fd_Stations_copy ["self"] []
  me_Stations_copy : Meth K C_Stations "copy" f_Stations_copy
  f_Stationsrow : Addr
  fd_Stationsrow : FuncData
  F_Stationsrow : Fun K "_row" "Stations._row" s_Stationsrow f_Stationsrow fd_Stationsrow
  b_Stationsrow : Binds K fd_Stationsrow ["self", "number"] []
  me_Stationsrow : Meth K C_Stations "_row" f_Stationsrow
  f__is_register_place : Addr
  fd__is_register_place : FuncData
  F__is_register_place : Fun K "_is_register_place" "_is_register_place" s__is_register_place f__is_register_place fd__is_register_place
  g__is_register_place : mg "_is_register_place" = some (.ref f__is_register_place)
  b__is_register_place : Binds K fd__is_register_place ["value"] []
  f__need_reads : Addr
  fd__need_reads : FuncData
  F__need_reads : Fun K "_need_reads" "_need_reads" s__need_reads f__need_reads fd__need_reads
  g__need_reads : mg "_need_reads" = some (.ref f__need_reads)
  b__need_reads : Binds K fd__need_reads ["value", "most"] []
  f_Lpot : Addr
  fd_Lpot : FuncData
  F_Lpot : Fun K "_law_pot" "_law_pot" s_Lpot f_Lpot fd_Lpot
  g_Lpot : mg "_law_pot" = some (.ref f_Lpot)
  b_Lpot : Binds K fd_Lpot ["_law_script", "_law_k"] []
  f_Ldraw : Addr
  fd_Ldraw : FuncData
  F_Ldraw : Fun K "_law_draw" "_law_draw" s_Ldraw f_Ldraw fd_Ldraw
  g_Ldraw : mg "_law_draw" = some (.ref f_Ldraw)
  b_Ldraw : Binds K fd_Ldraw ["_law_pot_here", "_law_sides"] []
  f_Lpick : Addr
  fd_Lpick : FuncData
  F_Lpick : Fun K "_law_pick" "_law_pick" s_Lpick f_Lpick fd_Lpick
  g_Lpick : mg "_law_pick" = some (.ref f_Lpick)
  b_Lpick : Binds K fd_Lpick ["_law_pot_here", "_law_some"] []
  f_Lseen : Addr
  fd_Lseen : FuncData
  F_Lseen : Fun K "_law_seen" "_law_seen" s_Lseen f_Lseen fd_Lseen
  g_Lseen : mg "_law_seen" = some (.ref f_Lseen)
  b_Lseen : Binds K fd_Lseen ["_law_rows", "_law_own"] []
  f_Lplaces : Addr
  fd_Lplaces : FuncData
  F_Lplaces : Fun K "_law_places" "_law_places" s_Lplaces f_Lplaces fd_Lplaces
  g_Lplaces : mg "_law_places" = some (.ref f_Lplaces)
  b_Lplaces : Binds K fd_Lplaces ["_law_pot_here", "_law_most"] []
  f_Ldue : Addr
  fd_Ldue : FuncData
  F_Ldue : Fun K "_law_due" "_law_due" s_Ldue f_Ldue fd_Ldue
  g_Ldue : mg "_law_due" = some (.ref f_Ldue)
  b_Ldue : Binds K fd_Ldue ["_law_own", "_law_oldest", "_law_numbers", "_law_taken", "_law_twist"] []
  f_Lchosen_right : Addr
  fd_Lchosen_right : FuncData
  F_Lchosen_right : Fun K "_law_chosen_right" "_law_chosen_right" s_Lchosen_right f_Lchosen_right fd_Lchosen_right
  g_Lchosen_right : mg "_law_chosen_right" = some (.ref f_Lchosen_right)
  b_Lchosen_right : Binds K fd_Lchosen_right ["_law_pot_here", "_law_rows", "_law_own", "_law_whims", "_law_numbers"] []
  f_Lput : Addr
  fd_Lput : FuncData
  F_Lput : Fun K "_law_put" "_law_put" s_Lput f_Lput fd_Lput
  g_Lput : mg "_law_put" = some (.ref f_Lput)
  b_Lput : Binds K fd_Lput ["_law_pot_here", "_law_rows", "_law_own", "_law_number", "_law_most"] []
  f_Lright : Addr
  fd_Lright : FuncData
  F_Lright : Fun K "_law_right" "_law_right" s_Lright f_Lright fd_Lright
  g_Lright : mg "_law_right" = some (.ref f_Lright)
  b_Lright : Binds K fd_Lright ["_law_pot_here"] []
  f_law : Addr
  fd_law : FuncData
  F_law : Fun K "law" "law" s_law f_law fd_law
  g_law : mg "law" = some (.ref f_law)
  b_law : Binds K fd_law ["_law_script"] []
  m_abs : mg "abs" = none
  m_all : mg "all" = none
  m_bool : mg "bool" = none
  m_dict : mg "dict" = none
  m_divmod : mg "divmod" = none
  m_int : mg "int" = none
  m_isinstance : mg "isinstance" = none
  m_len : mg "len" = none
  m_list : mg "list" = none
  m_max : mg "max" = none
  m_min : mg "min" = none
  m_range : mg "range" = none
  m_set : mg "set" = none
  m_sorted : mg "sorted" = none
  m_tuple : mg "tuple" = none
  c__MOST_NUMBERS : ∃ t, mg "_MOST_NUMBERS" = some (.int 200 t)
  c__GREATEST : ∃ t, mg "_GREATEST" = some (.int 1000000 t)
  c__MOST_ROWS : ∃ t, mg "_MOST_ROWS" = some (.int 32 t)
  c__REGISTER_PLACES : ∃ t, mg "_REGISTER_PLACES" = some (.int 48 t)
  c__MOST_READS : ∃ t, mg "_MOST_READS" = some (.int 3 t)
  c__MOST_READY : ∃ t, mg "_MOST_READY" = some (.int 48 t)
  ic_Whims : PySem.W.findIn K (.ref C_Whims) "__class__" = some (some (.builtin "object.__class__"))
  in_Whims : PySem.W.specialIn K (.builtin "object.__class__") "__get__" = some (some (.builtin "getset_descriptor.__get__"))
  it_Whims : PySem.W.takesIn K (.builtin "object.__class__") = some true
  im_Whims : PySem.W.mroIn K C_Whims (.type "object") = some true
abbrev SR := Int × List Int × List Int
def ik (rs : List (Int × PyData)) : List (Key × PyData) := rs.map fun r => (Sum.inl r.1, r.2)
def lD (xs : List Int) : PyData := .list (xs.map PyData.int)
def sD (rs : List SR) : List (Int × PyData) := rs.map fun r => (r.1, .tuple [lD r.2.1, lD r.2.2])
def stn (C x dx d : Addr) (m : Int) (rs : List SR) : List (Addr × Ob) := [(x, .raw (.ins C dx (F_Stations (.int m) (.ref d)))), (d, .D (ik (sD rs)))]
def wm (C x dx n : Addr) (ws : List Int) (t : Int) : List (Addr × Ob) := [(x, .raw (.ins C dx (F_Whims (.ref n) (.int t)))), (n, .raw (.lst (ws.map V.int)))]

end K72

set_option Elab.async false
set_option linter.all false
set_option maxRecDepth 100000
set_option maxHeartbeats 8000000

namespace K72
open PySem PySem.Spec PyProof.Rows L2 Hx 
local macro_rules | `(tactic| walk_at "sm") => `(tactic| repeat' (first | assumption | apply Hx.Same.upd | exact L2.Same.refl _ | apply same_trans'))
local macro_rules | `(tactic| walk_at "hp") => `(tactic| repeat' (first | assumption | exact upd_same | apply old_upd | apply same_at))
local macro_rules | `(tactic| walk_at "rd") => `(tactic| repeat' (first | rfl | apply Exists.intro | apply And.intro | refine iteT ?_ | refine iteF ?_ | exact upd_same | exact SqL.of (by assumption) | exact SqL.of upd_same | exact SqT.of upd_same | exact SqT.of (by assumption) | ((with_reducible show (_ : Int) < _); omega) | ((with_reducible show (_ : Int) ≤ _); omega) | (show (_ : Prop); assumption) | exact Or.inl ⟨_, by assumption, rfl⟩ | exact Or.inl ⟨rfl, _, SqL.of (by assumption)⟩ | exact Or.inl ⟨rfl, _, SqL.of upd_same⟩ | apply old_upd | apply Hx.SqL.new | apply tyl_new | apply Pot.new | exact same_at (by assumption) (by assumption) | exact Or.inl (SqL.of (by assumption)) | exact Or.inl (by assumption) | exact Or.inl (SqL.of upd_same) | exact size_le (Nat.le_of_ble_eq_true rfl) | exact Nat.le_of_ble_eq_true rfl | exact True.intro | exact Or.inl rfl | exact Or.inr rfl | (show (_ : Prop); omega) | (show (_ : Prop); dsimp only; omega) | exact mulw64 (by omega) (by omega) | exact mulw64 (by (try dsimp only); omega) (by (try dsimp only); omega)))
set_option hygiene false in
local macro_rules | `(tactic| walk_at "fl") => `(tactic| simp only [pu_Whims_numbers, pi_Whims_numbers, pu_Whims_position, pi_Whims_position, pu_Stations_many, pi_Stations_many, pu_Stations_rows, pi_Stations_rows] at hO)
local macro_rules | `(tactic| walk_at "mem") => `(tactic| ((repeat (first | exact List.Mem.head _ | apply List.Mem.tail | fail)); done))
local macro_rules | `(tactic| walk_at "setat") => `(tactic| ((repeat (first | (with_reducible exact At.head) | (with_reducible apply At.tail) | (with_reducible apply At.app) | fail)); done))
set_option hygiene false in
local macro_rules | `(tactic| walk_at "dv") => `(tactic| ((repeat' (first | exact Dv.nil | exact Dv.of (by walk_at "mem") | exact Dv.ints _ | exact Dv1.of (by walk_at "mem") | exact Dv1.int _ | exact Dv1.non | exact Dv1.bl _ | exact Dv1.str _ | (with_reducible apply Dv.cons) | refine Dv1.tup (by walk_at "mem") ?_ | refine Dv1.lst (by walk_at "mem") ?_ | (with_reducible apply Dv.app) | fail)); done))
local macro_rules | `(tactic| walk_at "ft") => `(tactic| (first | (with_reducible exact Ft.refl) | ((with_reducible apply Ft.toL); focus walk_at "dv") | ((with_reducible apply Ft.toS); focus assumption) | (with_reducible apply Ft.lst) | (with_reducible apply Ft.Le) | (with_reducible apply Ft.dK) | (with_reducible apply Ft.De) | (with_reducible apply Ft.ins) | (with_reducible apply Ft.toL) | (with_reducible apply Ft.toS) | (with_reducible apply Ft.toD) | fail))
local macro_rules | `(tactic| walk_at "sbL") => `(tactic| repeat' (first | (with_reducible exact Sb.refl _) | exact Sb.nil | (with_reducible apply Sb.cons) | (with_reducible apply Sb.app) | (with_reducible exact Pk.one) | (with_reducible exact Pk.here) | (with_reducible exact Pk.all) | (with_reducible apply Pk.skip1) | (with_reducible apply Pk.skipB) | (with_reducible apply Sb.skip) | (with_reducible apply Sb.skipB) | ((with_reducible show Ft _ _ _ _); walk_at "ft") | ((with_reducible show (_ : List _) = _); (first | rfl | (simp [List.map_set, List.map_append]; done) | fail)) | fail))
local macro_rules | `(tactic| walk_at "sb") => `(tactic| ((walk_at "sbL"); done))
local macro_rules | `(tactic| walk_at "ps") => `(tactic| ((repeat' (first | (with_reducible exact Ps.refl) | exact Ps.nil | (with_reducible apply Ps.cons) | exact List.Mem.head _ | apply List.Mem.tail | (with_reducible apply Ps.skip) | fail)); done))
set_option hygiene false in
local macro_rules | `(tactic| walk_at "at") => `(tactic| first | assumption | exact Own.raw hO (by walk_at "mem") | exact Own.ptup hO (by walk_at "mem") | exact Own.plst hO (by walk_at "mem") | fail)
set_option hygiene false in
local macro_rules | `(tactic| walk_at "st") => `(tactic| (rw [upd_mkO hO]; generalize e : updX _ _ _ = H1; (first | ((apply Own.cset hO e); (focus walk_at "setat"); (try clear hO e); intro hO) | ((apply Own.cnewT hO e); (focus assumption); (try clear hO e); intro hO) | ((apply Own.cnew hO e); (focus assumption); (try clear hO e); intro hO) | fail)))
set_option hygiene false in
local macro_rules | `(tactic| walk_at "mk") => `(tactic| (intro p1 p2 f1 f2 f3; rw [upd_mkO hO]; generalize e : upd (updX _ _ _) _ _ = H1; apply Own.cmake hO f1 f2 f3 e; (try clear hO e); intro hO))
set_option hygiene false in
local macro_rules | `(tactic| walk_at "own") => `(tactic| (first | ((apply Own.sub hO); (focus walk_at "sb"); (focus walk_at "ps")) | ((apply Own.sub hF); (focus walk_at "sb"); (focus walk_at "ps")) | fail))
set_option hygiene false in
local macro_rules | `(tactic| walk_at "fin") => `(tactic| (refine Own.sub hO ?_ (by walk_at "ps"); walk_at "sbL"))
set_option hygiene false in
local macro_rules | `(tactic| walk_at "g1") => `(tactic| (first
 | ((with_reducible show (_ : Option HO) = _); walk_at "at")
 | ((with_reducible show (_ : Int) < _); omega) | ((with_reducible show (_ : Int) ≤ _); omega)
 | ((with_reducible show (_ : Nat) < _); (first | assumption | exact Nat.le_of_ble_eq_true rfl | exact size_lt (Nat.le_of_ble_eq_true rfl) | omega | (simp; done) | (simp; omega) | fail))
 | ((with_reducible show (_ : Nat) ≤ _); (first | assumption | exact Nat.le_of_ble_eq_true rfl | exact size_le (Nat.le_of_ble_eq_true rfl) | omega | (simp; done) | (simp; omega) | fail))
 | ((with_reducible show Own _ _ _ _); (first | walk_at "own" | (walk_at "st"; walk_at "own") | fail))
 | ((with_reducible show SqL _ _ _ _); (first | assumption | exact SqL.of (by walk_at "at") | fail))
 | ((with_reducible show SqT _ _ _ _); (first | assumption | exact hO.psq (by walk_at "mem") | exact SqT.of (by walk_at "at") | fail))
  | ((with_reducible show Cls _ _); exact Txt.cl_Whims T) | ((with_reducible show NoAttr _ _ _); exact Txt.n_Whims_numbers T) | (with_reducible exact gt_Whims_numbers) | ((with_reducible show NoAttr _ _ _); exact Txt.n_Whims_position T) | (with_reducible exact gt_Whims_position) | ((with_reducible show Cls _ _); exact Txt.cl_Stations T) | ((with_reducible show NoAttr _ _ _); exact Txt.n_Stations_many T) | (with_reducible exact gt_Stations_many) | ((with_reducible show NoAttr _ _ _); exact Txt.n_Stations_rows T) | (with_reducible exact gt_Stations_rows)  | ((with_reducible show V.ref _ = V.ref _); (first | rfl | fail))
 | ((with_reducible show DGet _ _ _ _); (first | exact DGet.ki (by walk_at "at") (by assumption) | exact DGet.kiF (by walk_at "at") (by assumption) | fail))
 | ((with_reducible show DPut _ _ _ _ _); exact DPut.ki (by walk_at "at") (by assumption))
 | ((with_reducible show Rd _ _ _); (first | exact Or.inl (by walk_at "at") | exact Or.inr ⟨_, by walk_at "at"⟩ | fail))
 | ((with_reducible show (∃ _ : List (Key × V), _) ∨ _); refine Or.inl ⟨_, by walk_at "at", ?_⟩)
 | ((with_reducible show Dv _ _ _ _); focus walk_at "dv") | ((with_reducible show Dv1 _ _ _ _); focus walk_at "dv")
 | ((with_reducible show IsD _ _); exact Or.inl ⟨_, Or.inl (by walk_at "at")⟩)
 | ((with_reducible show V.int _ = kV _); exact kV_int)
 | ((with_reducible show Option.isSome _ = true); (first | exact isSome_ofV (by assumption) | assumption | fail))
 | ((with_reducible show SqL _ _ _ _ ∨ SqT _ _ _ _); (first | exact Or.inl (by assumption) | exact Or.inr (by assumption) | exact Or.inl (SqL.of (by walk_at "at")) | exact Or.inr (SqT.of (by walk_at "at")) | fail))
 | ((with_reducible show Dp _ _ _ _); (first | assumption | exact hO.dpL (by walk_at "mem") | exact .lst (SqL.of (by walk_at "at")) (hO.all (by walk_at "dv")) | exact hO.one (by walk_at "dv") | fail))
 | ((with_reducible show TruV _ _ _ _); (first | exact Or.inl ⟨_, SqL.of (by walk_at "at"), rfl⟩ | exact Or.inr (Or.inr ⟨_, by walk_at "at", rfl⟩) | exact Or.inr (Or.inl ⟨_, SqT.of (by walk_at "at"), rfl⟩) | fail))
 | ((with_reducible show RgOk _ _); exact RgOk.of_le (by omega) (by omega) (by omega) (by omega))
 | rfl | (with_reducible assumption) | apply And.intro | apply Exists.intro | refine iteT ?_ | refine iteF ?_
 | (walk_at "st"; (try walk_at "fl"))
 | ((with_reducible show ∀ _ : Addr, _ = none → _); (fail_if_success (with_reducible show ∀ _ : Addr, _ = none → ∃ _ : Nat → Nat → Hp → Prop, _)); intro p fp; walk_at "st")
 | (refine Or.inl ⟨SqL.of (by walk_at "at"), ?_⟩) | (refine Or.inr ⟨SqT.of (by walk_at "at"), ?_⟩) | exact Or.inl ⟨_, by walk_at "at", rfl⟩ | exact Or.inl ⟨rfl, _, SqL.of (by walk_at "at")⟩ | exact tyl_of (by walk_at "at") | exact Or.inl (SqL.of (by walk_at "at")) | exact Or.inr (SqT.of (by walk_at "at")) | exact Or.inl (by walk_at "at") | exact size_le (Nat.le_of_ble_eq_true rfl) | exact Nat.le_of_ble_eq_true rfl | exact True.intro | exact Or.inl rfl | exact Or.inr rfl | (show (_ : Prop); assumption) | (show (_ : Prop); omega) | (show (_ : Prop); dsimp only; omega) | exact mulw64 (by omega) (by omega) | exact mulw64 (by (try dsimp only); omega) (by (try dsimp only); omega) | fail))
local macro_rules | `(tactic| walk_at "go") => `(tactic| repeat walk_at "g1")

section
variable {P : Program} {w : World} {K : PySem.W.Frag} {mg : Str → Option Value} {base : Heap}
def sp_is_integer : Sp := fun vs H Q _ => ∃ i : Int, vs = [.int i] ∧ Q (.bl true) H
theorem ok_is_integer (T : Txt w K mg) : FnOk P w K mg base CX0 1 T.f_is_integer T.fd_is_integer ["value"] (sp_is_integer) := by
  refine T.F_is_integer.ok sc_is_integer (fun vs H Q E h => ?_) (fun cdv A outer s H vs Q E hr h => ?_)
  · obtain ⟨i, rfl, k⟩ := h; rfl
  · obtain ⟨i, rfl, k⟩ := h
    refine ⟨_, (pss_one (ps_ret (pe_and (pe_callB call_isi (by rfl) T.m_isinstance (by decide +kernel) (pa_cons (pv 0) (pa_cons (pe_bltn (v := .ty "int") (u := .type "int") (by rfl) T.m_int (by decide +kernel) rfl) pa_nil))) (pe_one (pe_not (pe_callB call_isi (by rfl) T.m_isinstance (by decide +kernel) (pa_cons (pv 0) (pa_cons (pe_bltn (v := .ty "bool") (u := .type "bool") (by rfl) T.m_bool (by decide +kernel) rfl) pa_nil)))))))), ?_⟩
    clear hr
    refine ⟨_, rfl, _, _, _, _, true, rfl, .ty _, .base (.int _), kit_ty (by decide +kernel), true, rfl, iteT ?_⟩
    refine ⟨_, rfl, _, _, _, _, false, rfl, .ty _, .base (.int _), kit_ty (by decide +kernel), false, rfl, k⟩
def sp_is_count : Sp := fun vs H Q _ => ∃ i : Int, vs = [.int i] ∧ 0 ≤ i ∧ Q (.bl true) H
theorem ok_is_count (T : Txt w K mg) : FnOk P w K mg base CX0 2 T.f_is_count T.fd_is_count ["value"] (sp_is_count) := by
  have G_is_integer := ok_is_integer (P := P) (w := w) (base := base) T
  refine T.F_is_count.ok sc_is_count (fun vs H Q E h => ?_) (fun cdv A outer s H vs Q E hr h => ?_)
  · obtain ⟨i, rfl, hi, k⟩ := h; rfl
  · obtain ⟨i, rfl, hi, k⟩ := h
    refine ⟨_, (pss_one (ps_ret (pe_and (pe_call G_is_integer (hr.mono (by decide)) rfl T.g_is_integer T.F_is_integer.kp T.b_is_integer .nil pass0 (pa_cons (pv 0) pa_nil)) (pe_one (pe_cmpR op_ge (pv 0) pe_int (nomark _)))))), ?_⟩
    clear G_is_integer
    clear hr
    walk_at "rd"
    exact qbl k (decide_eq_true (by omega))
def sp_is_between : Sp := fun vs H Q _ => ∃ i a b : Int, vs = [.int i, .int a, .int b] ∧ Q (.bl (decide (a ≤ i ∧ i ≤ b))) H
theorem ok_is_between (T : Txt w K mg) : FnOk P w K mg base CX0 2 T.f_is_between T.fd_is_between ["value", "least", "most"] (sp_is_between) := by
  have G_is_integer := ok_is_integer (P := P) (w := w) (base := base) T
  refine T.F_is_between.ok sc_is_between (fun vs H Q E h => ?_) (fun cdv A outer s H vs Q E hr h => ?_)
  · obtain ⟨i, a, b, rfl, k⟩ := h; rfl
  · obtain ⟨i, a, b, rfl, k⟩ := h
    refine ⟨_, (pss_one (ps_ret (pe_and (pe_call G_is_integer (hr.mono (by decide)) rfl T.g_is_integer T.F_is_integer.kp T.b_is_integer .nil pass0 (pa_cons (pv 0) pa_nil)) (pe_one (pe_chain op_le op_le (pv 1) (pv 0) (pv 2)))))), ?_⟩
    clear G_is_integer
    clear hr
    walk_at "rd"
    refine iteD (fun h1 => ?_) (fun h1 => ?_)
    · walk_at "rd"; exact qbl k (by simp [h1])
    · exact qbl k (by simp [h1])
def sp_need_number : Sp := fun vs H Q _ => ∃ i : Int, vs = [.int i] ∧ 0 ≤ i ∧ Q .non H
theorem ok_need_number (T : Txt w K mg) : FnOk P w K mg base CX0 3 T.f_need_number T.fd_need_number ["value"] (sp_need_number) := by
  have G_is_count := ok_is_count (P := P) (w := w) (base := base) T
  refine T.F_need_number.ok sc_need_number (fun vs H Q E h => ?_) (fun cdv A outer s H vs Q E hr h => ?_)
  · obtain ⟨i, rfl, hi, k⟩ := h; rfl
  · obtain ⟨i, rfl, hi, k⟩ := h
    refine ⟨_, (pss_one (ps_if (pt_not (pt_val (pe_call G_is_count (hr.mono (by decide)) rfl T.g_is_count T.F_is_count.kp T.b_is_count .nil pass0 (pa_cons (pv 0) pa_nil))))
          (pss_one ps_never)
          pss_nil)), ?_⟩
    clear G_is_count
    clear hr
    walk_at "rd"
theorem ik_len {kvs : List (Key × V)} {rs : List (Int × PyData)} (hk : kvs.map Prod.fst = (ik rs).map Prod.fst) : kvs.length = rs.length := by
  have := congrArg List.length hk
  simpa [ik] using this
theorem ik_keys {kvs : List (Key × V)} {rs : List (Int × PyData)} (hk : kvs.map Prod.fst = (ik rs).map Prod.fst) : kvs.map Prod.fst = (rs.map Prod.fst).map Sum.inl := by
  rw [hk, ik, List.map_map, List.map_map]; rfl
theorem ik_get {kvs : List (Key × V)} {rs : List (Int × PyData)} (hk : kvs.map Prod.fst = (ik rs).map Prod.fst) {i : Nat} {k : Key} {v : V} (h : kvs[i]? = some (k, v)) : ∃ r, rs[i]? = some r ∧ k = Sum.inl r.1 := by
  have e := congrArg (fun l => l[i]?) (ik_keys hk)
  simp only [List.getElem?_map, h, Option.map_some] at e
  cases e2 : rs[i]? with
  | none => rw [e2] at e; simp at e
  | some r => rw [e2] at e; simp at e; exact ⟨r, rfl, e⟩
theorem ik_drop (rs : List (Int × PyData)) (n : Int) : dropD (ik rs) (Sum.inl n) = ik (rs.filter fun r => decide (r.1 ≠ n)) := dropD_rows (fun r : Int × PyData => r.1) (fun r => r.2) rs n
theorem ik_val (rs : List (Int × PyData)) (n : Int) : valD (ik rs) (Sum.inl n) = (rs.find? fun r => decide (r.1 = n)).map Prod.snd := valD_rows (fun r : Int × PyData => r.1) (fun r => r.2) rs n
theorem ik_has {rs : List (Int × PyData)} {r : Int × PyData} (h : r ∈ rs) : ∃ d, valD (ik rs) (Sum.inl r.1) = some d := by
  rw [ik_val]
  cases e : rs.find? fun q => decide (q.1 = r.1) with
  | none => rw [List.find?_eq_none] at e; exact absurd (decide_eq_true rfl) (e r h)
  | some q => exact ⟨_, rfl⟩
theorem not_take : ∀ {g : List Int} {i : Nat} {z : Int}, g.Nodup → g[i]? = some z → z ∉ g.take i
  | [], i, _, _, h => by simp at h
  | x :: g, 0, _, _, _ => by simp
  | x :: g, i + 1, z, nd, h => by
    have nd' := List.nodup_cons.mp nd
    simp only [List.getElem?_cons_succ] at h
    rw [List.take_succ_cons]
    intro hm
    rcases List.mem_cons.mp hm with e | hm
    · exact nd'.1 (e ▸ List.mem_of_getElem? h)
    · exact not_take nd'.2 h hm
def sp_drop (K : PySem.W.Frag) : Sp := fun vs H Q _ => ∃ (d : Addr) (rs : List (Int × PyData)) (n : Int) (R : List (Addr × Ob)) (P : List Pf), vs = [.ref d, .int n] ∧ Own K H ((d, .D (ik rs)) :: R) P ∧ 0 ≤ n ∧ rs.length ≤ 1000 ∧ (rs.map Prod.fst).Nodup ∧
  ∀ (p : Addr) (H' : Hp) (P' : List Pf), Ps P P' → Own K H' ((p, .raw (.lst ((srt ((rs.map Prod.fst).filter fun z => decide (n ≤ z))).reverse.map V.int))) :: (d, .D (ik (rs.filter fun r => decide (r.1 < n)))) :: R) P' → Q (.ref p) H'
theorem ok_drop_from (T : Txt w K mg) : FnOk P w K mg base CX0 4 T.f_drop_from T.fd_drop_from ["rows", "number"] (sp_drop K) := by
  have G_need_number := ok_need_number (P := P) (w := w) (base := base) T
  refine T.F_drop_from.ok sc_drop_from (fun vs H Q E h => ?_) (fun cdv A outer s H vs Q E hr h => ?_)
  · obtain ⟨d, rs, n, R, P, rfl, hO, hn, hz, hnd, k⟩ := h; rfl
  · obtain ⟨d, rs, n, R, P, rfl, hO, hn, hz, hnd, k⟩ := h
    refine ⟨_, (pss_cons (ps_expr (pe_call G_need_number (hr.mono (by decide)) rfl T.g_need_number T.F_need_number.kp T.b_need_number .nil pass0 (pa_cons (pv 1) pa_nil)))
        (pss_cons (ps_set (i := 3) sc_drop_from.nd rfl (Or.inl rfl) (pe_callBK (cr_sortedRev (b := true)) (by rfl) T.m_sorted (by decide +kernel) (pa_cons (pe_lockS (pe_lc (own := [("one", 2)]) (g := gName 2)  rfl sc_drop_from.nd (pi_keys (pv 0)) (blkOk_by (N := ["rows", "number", "one", "gone"]) (sc := defScope s_drop_from) (by decide +kernel)) (fun _ _ _ _ _ => pg_name (i := 2) sc_drop_from.nd rfl (Or.inl rfl)) (fun _ _ _ _ _ => pts_one (pt_cmpR op_ge (pv 2) (pv 1) (nomark _))) (fun _ _ _ _ _ => (pv 2)))) pa_nil) (pk_cons pe_bl pk_nil)))
        (pss_cons (ps_forS PassesOwn.never rfl (pi_list (pv 3)) (pg_name (i := 2) sc_drop_from.nd rfl (Or.inl rfl))
          (pss_one (ps_ddel (pv 0) (pv 2))))
        (pss_one (ps_ret (pv 3)))))), ?_⟩
    clear G_need_number
    clear hr
    walk_at "go"
    obtain ⟨kvs, hk, o1⟩ := hO.openD (a := d) (by walk_at "mem")
    have hO2 := o1 _ .head
    clear o1
    have hl := ik_len hk
    refine hO2.lockE (d := d) (u := .dK kvs) (by walk_at "mem") trivial fun od H1 o2 => ?_
    replace hO := o2 _ .head
    clear o2 hO2
    walk_at "go"
    intro D hD
    refine lc_siftW (rs.map Prod.fst) V.int (fun z => decide (n ≤ z)) (by rw [List.length_map, ← hl]; exact walk_keys) hO hD (by simp; omega) (fun H L' P' s t h => h.raw (s _ List.mem_cons_self)) (fun i z x H9 H' P' ys Qn Qy hz2 hY sp hO kn ky => ?_) (fun H5 P5 sp5 hO => ?_)
    · obtain ⟨rfl, ky2, v, e1, rfl⟩ := hY
      obtain ⟨r, er, rfl⟩ := ik_get hk e1
      rw [List.getElem?_map, er] at hz2
      injection hz2 with hz2
      subst hz2
      walk_at "go"
      refine iteD (fun h => ?_) (fun h => ?_)
      · walk_at "go"
        exact ky (decide_eq_true h) _ _ (by walk_at "ps") hO
      · exact kn (decide_eq_false h) _ _ (by walk_at "ps") hO
    · walk_at "go"
      intro ys p hp hord fp
      obtain rfl := srt_rev hp hord
      obtain ⟨g, hg⟩ : ∃ g, g = (srt ((rs.map Prod.fst).filter fun z => decide (n ≤ z))).reverse := ⟨_, rfl⟩
      have hmem : ∀ z, z ∈ g ↔ z ∈ rs.map Prod.fst ∧ n ≤ z := fun z => by rw [hg, List.mem_reverse, srt_mem, List.mem_filter, decide_eq_true_iff]
      rw [← hg]
      rw [← hg] at k
      walk_at "go"
      refine ⟨for_list (xs := g.map V.int) (fun i σ H' => Stop (∃ (t2 : Option V) (P3 : List Pf), σ = [some (.ref d), some (.int n), t2, some (.ref p)] ∧ Ps P P3 ∧ Own K H' ((p, .raw (.lst (g.map V.int))) :: (d, .D (ik (rs.filter fun r => decide (r.1 ∉ g.take i)))) :: R) P3)) ⟨⟨none, P5, rfl, ?_, ?_⟩⟩ (fun i σ H' hi h => ?_) (fun i v σ H' hv h => ?_) (fun σ H' h => ?_)⟩
      · exact fun q hq => sp5 q (List.mem_cons_of_mem _ hq)
      · have e0 : (rs.filter fun r => decide (r.1 ∉ g.take 0)) = rs := by simp
        rw [e0]
        refine Own.sub hO ?_ Ps.refl
        walk_at "sbL"
        · exact hk
        · exact Dv.of (sp5 _ List.mem_cons_self)
      · obtain ⟨t2, P3, rfl, sp3, hO⟩ := h.h
        exact SqL.of (hO.raw (by walk_at "mem"))
      · clear hO
        obtain ⟨t2, P3, rfl, sp3, hO⟩ := h.h
        clear h
        obtain ⟨z, rfl, hz2⟩ := int_get hv
        have hzm : z ∈ g := List.mem_of_getElem? hz2
        obtain ⟨kvs3, hk3, o3⟩ := hO.openD (a := d) (by walk_at "mem")
        replace hO := o3 _ (.tail .head)
        clear o3
        have hgn : g.Nodup := by rw [hg]; exact (List.reverse_perm _).nodup_iff.mpr ((srt_perm _).nodup_iff.mpr (hnd.filter _))
        have nd : z ∉ g.take i := not_take hgn hz2
        have hv3 : ∃ v, valV kvs3 (Sum.inl z) = some v := by
          obtain ⟨hz3, _⟩ := (hmem z).mp hzm
          obtain ⟨r, hr, e⟩ := List.mem_map.mp hz3
          have hin : r ∈ rs.filter fun r => decide (r.1 ∉ g.take i) := List.mem_filter.mpr ⟨hr, decide_eq_true (by rw [e]; exact nd)⟩
          obtain ⟨dd, hdd⟩ := ik_has hin
          rw [e] at hdd
          exact valV_of hk3 hdd
        obtain ⟨v3, hv3⟩ := hv3
        walk_at "go"
        refine ⟨⟨some (.int z), P3, rfl, sp3, ?_⟩⟩
        have e3 : ik (rs.filter fun r => decide (r.1 ∉ g.take (i + 1))) = dropD (ik (rs.filter fun r => decide (r.1 ∉ g.take i))) (Sum.inl z) := by
          rw [ik_drop, List.filter_filter]
          congr 1
          refine List.filter_congr fun r _ => ?_
          rw [List.take_add_one, hz2]
          simp [not_or, And.comm]
        rw [e3]
        refine Own.sub hO ?_ (Ps.skip Ps.refl)
        walk_at "sbL"
        · exact dropK_fst _ hk3
        · exact Dv.drop' (Dv.of (by walk_at "mem")) hk3
      · clear hO
        obtain ⟨t2, P3, rfl, sp3, hO⟩ := h.h
        clear h
        walk_at "go"
        refine k p H' P3 sp3 ?_
        have e4 : (rs.filter fun r => decide (r.1 ∉ g.take (g.map V.int).length)) = rs.filter fun r => decide (r.1 < n) := by
          refine List.filter_congr fun r hr => ?_
          rw [List.length_map, List.take_length]
          refine decide_eq_decide.mpr ?_
          rw [hmem]
          have : r.1 ∈ rs.map Prod.fst := List.mem_map_of_mem hr
          constructor
          · intro h; apply Int.lt_of_not_ge; intro h2; exact h ⟨this, h2⟩
          · intro h h2; omega
        rw [e4] at hO
        exact hO
end
end K72

set_option Elab.async false
set_option linter.all false
set_option maxRecDepth 100000
set_option maxHeartbeats 8000000

namespace K72
open PySem PySem.Spec PyProof.Rows L2 Hx 
local macro_rules | `(tactic| walk_at "sm") => `(tactic| repeat' (first | assumption | apply Hx.Same.upd | exact L2.Same.refl _ | apply same_trans'))
local macro_rules | `(tactic| walk_at "hp") => `(tactic| repeat' (first | assumption | exact upd_same | apply old_upd | apply same_at))
local macro_rules | `(tactic| walk_at "rd") => `(tactic| repeat' (first | rfl | apply Exists.intro | apply And.intro | refine iteT ?_ | refine iteF ?_ | exact upd_same | exact SqL.of (by assumption) | exact SqL.of upd_same | exact SqT.of upd_same | exact SqT.of (by assumption) | ((with_reducible show (_ : Int) < _); omega) | ((with_reducible show (_ : Int) ≤ _); omega) | (show (_ : Prop); assumption) | exact Or.inl ⟨_, by assumption, rfl⟩ | exact Or.inl ⟨rfl, _, SqL.of (by assumption)⟩ | exact Or.inl ⟨rfl, _, SqL.of upd_same⟩ | apply old_upd | apply Hx.SqL.new | apply tyl_new | apply Pot.new | exact same_at (by assumption) (by assumption) | exact Or.inl (SqL.of (by assumption)) | exact Or.inl (by assumption) | exact Or.inl (SqL.of upd_same) | exact size_le (Nat.le_of_ble_eq_true rfl) | exact Nat.le_of_ble_eq_true rfl | exact True.intro | exact Or.inl rfl | exact Or.inr rfl | (show (_ : Prop); omega) | (show (_ : Prop); dsimp only; omega) | exact mulw64 (by omega) (by omega) | exact mulw64 (by (try dsimp only); omega) (by (try dsimp only); omega)))
set_option hygiene false in
local macro_rules | `(tactic| walk_at "fl") => `(tactic| simp only [pu_Whims_numbers, pi_Whims_numbers, pu_Whims_position, pi_Whims_position, pu_Stations_many, pi_Stations_many, pu_Stations_rows, pi_Stations_rows] at hO)
local macro_rules | `(tactic| walk_at "mem") => `(tactic| ((repeat (first | exact List.Mem.head _ | apply List.Mem.tail | fail)); done))
local macro_rules | `(tactic| walk_at "setat") => `(tactic| ((repeat (first | (with_reducible exact At.head) | (with_reducible apply At.tail) | (with_reducible apply At.app) | fail)); done))
set_option hygiene false in
local macro_rules | `(tactic| walk_at "dv") => `(tactic| ((repeat' (first | exact Dv.nil | exact Dv.of (by walk_at "mem") | exact Dv.ints _ | exact Dv1.of (by walk_at "mem") | exact Dv1.int _ | exact Dv1.non | exact Dv1.bl _ | exact Dv1.str _ | (with_reducible apply Dv.cons) | refine Dv1.tup (by walk_at "mem") ?_ | refine Dv1.lst (by walk_at "mem") ?_ | (with_reducible apply Dv.app) | fail)); done))
local macro_rules | `(tactic| walk_at "ft") => `(tactic| (first | (with_reducible exact Ft.refl) | ((with_reducible apply Ft.toL); focus walk_at "dv") | ((with_reducible apply Ft.toS); focus assumption) | (with_reducible apply Ft.lst) | (with_reducible apply Ft.Le) | (with_reducible apply Ft.dK) | (with_reducible apply Ft.De) | (with_reducible apply Ft.ins) | (with_reducible apply Ft.toL) | (with_reducible apply Ft.toS) | (with_reducible apply Ft.toD) | fail))
local macro_rules | `(tactic| walk_at "sbL") => `(tactic| repeat' (first | (with_reducible exact Sb.refl _) | exact Sb.nil | (with_reducible apply Sb.cons) | (with_reducible apply Sb.app) | (with_reducible exact Pk.one) | (with_reducible exact Pk.here) | (with_reducible exact Pk.all) | (with_reducible apply Pk.skip1) | (with_reducible apply Pk.skipB) | (with_reducible apply Sb.skip) | (with_reducible apply Sb.skipB) | ((with_reducible show Ft _ _ _ _); walk_at "ft") | ((with_reducible show (_ : List _) = _); (first | rfl | (simp [List.map_set, List.map_append]; done) | fail)) | fail))
local macro_rules | `(tactic| walk_at "sb") => `(tactic| ((walk_at "sbL"); done))
local macro_rules | `(tactic| walk_at "ps") => `(tactic| ((repeat' (first | (with_reducible exact Ps.refl) | exact Ps.nil | (with_reducible apply Ps.cons) | exact List.Mem.head _ | apply List.Mem.tail | (with_reducible apply Ps.skip) | fail)); done))
set_option hygiene false in
local macro_rules | `(tactic| walk_at "at") => `(tactic| first | assumption | exact Own.raw hO (by walk_at "mem") | exact Own.ptup hO (by walk_at "mem") | exact Own.plst hO (by walk_at "mem") | fail)
set_option hygiene false in
local macro_rules | `(tactic| walk_at "st") => `(tactic| (rw [upd_mkO hO]; generalize e : updX _ _ _ = H1; (first | ((apply Own.cset hO e); (focus walk_at "setat"); (try clear hO e); intro hO) | ((apply Own.cnewT hO e); (focus assumption); (try clear hO e); intro hO) | ((apply Own.cnew hO e); (focus assumption); (try clear hO e); intro hO) | fail)))
set_option hygiene false in
local macro_rules | `(tactic| walk_at "mk") => `(tactic| (intro p1 p2 f1 f2 f3; rw [upd_mkO hO]; generalize e : upd (updX _ _ _) _ _ = H1; apply Own.cmake hO f1 f2 f3 e; (try clear hO e); intro hO))
set_option hygiene false in
local macro_rules | `(tactic| walk_at "own") => `(tactic| (first | ((apply Own.sub hO); (focus walk_at "sb"); (focus walk_at "ps")) | ((apply Own.sub hF); (focus walk_at "sb"); (focus walk_at "ps")) | fail))
set_option hygiene false in
local macro_rules | `(tactic| walk_at "fin") => `(tactic| (refine Own.sub hO ?_ (by walk_at "ps"); walk_at "sbL"))
set_option hygiene false in
local macro_rules | `(tactic| walk_at "g1") => `(tactic| (first
 | ((with_reducible show (_ : Option HO) = _); walk_at "at")
 | ((with_reducible show (_ : Int) < _); omega) | ((with_reducible show (_ : Int) ≤ _); omega)
 | ((with_reducible show (_ : Nat) < _); (first | assumption | exact Nat.le_of_ble_eq_true rfl | exact size_lt (Nat.le_of_ble_eq_true rfl) | omega | (simp; done) | (simp; omega) | fail))
 | ((with_reducible show (_ : Nat) ≤ _); (first | assumption | exact Nat.le_of_ble_eq_true rfl | exact size_le (Nat.le_of_ble_eq_true rfl) | omega | (simp; done) | (simp; omega) | fail))
 | ((with_reducible show Own _ _ _ _); (first | walk_at "own" | (walk_at "st"; walk_at "own") | fail))
 | ((with_reducible show SqL _ _ _ _); (first | assumption | exact SqL.of (by walk_at "at") | fail))
 | ((with_reducible show SqT _ _ _ _); (first | assumption | exact hO.psq (by walk_at "mem") | exact SqT.of (by walk_at "at") | fail))
  | ((with_reducible show Cls _ _); exact Txt.cl_Whims T) | ((with_reducible show NoAttr _ _ _); exact Txt.n_Whims_numbers T) | (with_reducible exact gt_Whims_numbers) | ((with_reducible show NoAttr _ _ _); exact Txt.n_Whims_position T) | (with_reducible exact gt_Whims_position) | ((with_reducible show Cls _ _); exact Txt.cl_Stations T) | ((with_reducible show NoAttr _ _ _); exact Txt.n_Stations_many T) | (with_reducible exact gt_Stations_many) | ((with_reducible show NoAttr _ _ _); exact Txt.n_Stations_rows T) | (with_reducible exact gt_Stations_rows)  | ((with_reducible show V.ref _ = V.ref _); (first | rfl | fail))
 | ((with_reducible show DGet _ _ _ _); (first | exact DGet.ki (by walk_at "at") (by assumption) | exact DGet.kiF (by walk_at "at") (by assumption) | fail))
 | ((with_reducible show DPut _ _ _ _ _); exact DPut.ki (by walk_at "at") (by assumption))
 | ((with_reducible show Rd _ _ _); (first | exact Or.inl (by walk_at "at") | exact Or.inr ⟨_, by walk_at "at"⟩ | fail))
 | ((with_reducible show (∃ _ : List (Key × V), _) ∨ _); refine Or.inl ⟨_, by walk_at "at", ?_⟩)
 | ((with_reducible show Dv _ _ _ _); focus walk_at "dv") | ((with_reducible show Dv1 _ _ _ _); focus walk_at "dv")
 | ((with_reducible show IsD _ _); exact Or.inl ⟨_, Or.inl (by walk_at "at")⟩)
 | ((with_reducible show V.int _ = kV _); exact kV_int)
 | ((with_reducible show Option.isSome _ = true); (first | exact isSome_ofV (by assumption) | assumption | fail))
 | ((with_reducible show SqL _ _ _ _ ∨ SqT _ _ _ _); (first | exact Or.inl (by assumption) | exact Or.inr (by assumption) | exact Or.inl (SqL.of (by walk_at "at")) | exact Or.inr (SqT.of (by walk_at "at")) | fail))
 | ((with_reducible show Dp _ _ _ _); (first | assumption | exact hO.dpL (by walk_at "mem") | exact .lst (SqL.of (by walk_at "at")) (hO.all (by walk_at "dv")) | exact hO.one (by walk_at "dv") | fail))
 | ((with_reducible show TruV _ _ _ _); (first | exact Or.inl ⟨_, SqL.of (by walk_at "at"), rfl⟩ | exact Or.inr (Or.inr ⟨_, by walk_at "at", rfl⟩) | exact Or.inr (Or.inl ⟨_, SqT.of (by walk_at "at"), rfl⟩) | fail))
 | ((with_reducible show RgOk _ _); exact RgOk.of_le (by omega) (by omega) (by omega) (by omega))
 | rfl | (with_reducible assumption) | apply And.intro | apply Exists.intro | refine iteT ?_ | refine iteF ?_
 | (walk_at "st"; (try walk_at "fl"))
 | ((with_reducible show ∀ _ : Addr, _ = none → _); (fail_if_success (with_reducible show ∀ _ : Addr, _ = none → ∃ _ : Nat → Nat → Hp → Prop, _)); intro p fp; walk_at "st")
 | (refine Or.inl ⟨SqL.of (by walk_at "at"), ?_⟩) | (refine Or.inr ⟨SqT.of (by walk_at "at"), ?_⟩) | exact Or.inl ⟨_, by walk_at "at", rfl⟩ | exact Or.inl ⟨rfl, _, SqL.of (by walk_at "at")⟩ | exact tyl_of (by walk_at "at") | exact Or.inl (SqL.of (by walk_at "at")) | exact Or.inr (SqT.of (by walk_at "at")) | exact Or.inl (by walk_at "at") | exact size_le (Nat.le_of_ble_eq_true rfl) | exact Nat.le_of_ble_eq_true rfl | exact True.intro | exact Or.inl rfl | exact Or.inr rfl | (show (_ : Prop); assumption) | (show (_ : Prop); omega) | (show (_ : Prop); dsimp only; omega) | exact mulw64 (by omega) (by omega) | exact mulw64 (by (try dsimp only); omega) (by (try dsimp only); omega) | fail))
local macro_rules | `(tactic| walk_at "go") => `(tactic| repeat walk_at "g1")

section
variable {P : Program} {w : World} {K : PySem.W.Frag} {mg : Str → Option Value} {base : Heap}
/-- a list or a tuple stands at a -/
def OSq (L : List (Addr × Ob)) (P : List Pf) (a : Addr) (xs : List V) : Prop := (a, Ob.raw (.lst xs)) ∈ L ∨ Pf.tup a xs ∈ P
theorem OSq.mono {L : List (Addr × Ob)} {P P' : List Pf} {a : Addr} {xs : List V} (h : OSq L P a xs) (s : Ps P P') : OSq L P' a xs := h.imp id (s _)
def sp_is_list (K : PySem.W.Frag) : Sp := fun vs H Q _ => ∃ (a : Addr) (xs : List V) (L : List (Addr × Ob)) (P : List Pf), vs = [.ref a] ∧ Own K H L P ∧ OSq L P a xs ∧ ∀ (H' : Hp) (P' : List Pf), Ps P P' → Own K H' L P' → Q (.bl true) H'
theorem ok_is_list (T : Txt w K mg) : FnOk P w K mg base CX0 1 T.f_is_list T.fd_is_list ["value"] (sp_is_list K) := by
  refine T.F_is_list.ok sc_is_list (fun vs H Q E h => ?_) (fun cdv A outer s H vs Q E hr h => ?_)
  · obtain ⟨a, xs, L, P, rfl, hO, hs, k⟩ := h; rfl
  · obtain ⟨a, xs, L, P, rfl, hO, hs, k⟩ := h
    refine ⟨_, (pss_one (ps_ret (pe_callB call_isiT (by rfl) T.m_isinstance (by decide +kernel) (pa_cons (pv 0) (pa_cons (pe_tup (pa_cons (pe_bltn (v := .ty "list") (u := .type "list") (by rfl) T.m_list (by decide +kernel) rfl) (pa_cons (pe_bltn (v := .ty "tuple") (u := .type "tuple") (by rfl) T.m_tuple (by decide +kernel) rfl) pa_nil))) pa_nil))))), ?_⟩
    clear hr
    walk_at "rd"
    intro tp htp
    have h2 := hO.newT (vs := [.ty "list", .ty "tuple"]) htp rfl
    have kk := k _ _ (Ps.skip Ps.refl) h2
    rcases hs with h | h
    · exact ⟨_, _, [.ty "list", .ty "tuple"], _, _, true, rfl, upd_same, .cons (.ty _) (.cons (.ty _) .nil), .base (.lst (old_upd htp (hO.raw h))), kitAny_cons (kit_ty (b := "list") (r := true) (by decide +kernel)) (fun z => nomatch z) (fun _ => rfl), kk⟩
    · exact ⟨_, _, [.ty "list", .ty "tuple"], _, _, true, rfl, upd_same, .cons (.ty _) (.cons (.ty _) .nil), .base (.tup (old_upd htp (hO.ptup h))), kitAny_cons (kit_ty (b := "list") (r := false) (by decide +kernel)) (fun _ => kitAny_cons (kit_ty (b := "tuple") (r := true) (by decide +kernel)) (fun z => nomatch z) (fun _ => rfl)) (fun z => nomatch z), kk⟩
def sp_need_many : Sp := fun vs H Q _ => ∃ i a b : Int, vs = [.int i, .int a, .int b] ∧ (a ≤ i ∧ i ≤ b) ∧ Q .non H
theorem ok_need_many (T : Txt w K mg) : FnOk P w K mg base CX0 3 T.f_need_many T.fd_need_many ["value", "least", "most"] (sp_need_many) := by
  have G_is_between := ok_is_between (P := P) (w := w) (base := base) T
  refine T.F_need_many.ok sc_need_many (fun vs H Q E h => ?_) (fun cdv A outer s H vs Q E hr h => ?_)
  · obtain ⟨i, a, b, rfl, hi, k⟩ := h; rfl
  · obtain ⟨i, a, b, rfl, hi, k⟩ := h
    refine ⟨_, (pss_one (ps_if (pt_not (pt_val (pe_call G_is_between (hr.mono (by decide)) rfl T.g_is_between T.F_is_between.kp T.b_is_between .nil pass0 (pa_cons (pv 0) (pa_cons (pv 1) (pa_cons (pv 2) pa_nil))))))
          (pss_one ps_never)
          pss_nil)), ?_⟩
    clear G_is_between
    clear hr
    walk_at "rd"
    refine iteN (fun h => absurd hi h) (fun _ => ?_)
    walk_at "rd"
theorem all_rep (n : Nat) : (List.replicate n true).all id = true := by induction n <;> simp
def sp_are_whims (K : PySem.W.Frag) : Sp := fun vs H Q _ => ∃ (a : Addr) (ws : List Int) (L : List (Addr × Ob)) (P : List Pf), vs = [.ref a] ∧ Own K H L P ∧ (a, Ob.raw (.lst (ws.map V.int))) ∈ L ∧ ws.length ≤ 200 ∧ (∀ z ∈ ws, 0 ≤ z ∧ z ≤ 1000000) ∧ ∀ (H' : Hp) (P' : List Pf), Ps P P' → Own K H' L P' → Q (.bl true) H'
theorem ok_are_whims (T : Txt w K mg) : FnOk P w K mg base CX0 3 T.f_are_whims T.fd_are_whims ["value"] (sp_are_whims K) := by
  have G_is_list := ok_is_list (P := P) (w := w) (base := base) T
  have G_is_between := ok_is_between (P := P) (w := w) (base := base) T
  refine T.F_are_whims.ok sc_are_whims (fun vs H Q E h => ?_) (fun cdv A outer s H vs Q E hr h => ?_)
  · obtain ⟨a, ws, L, P, rfl, hO, hs, hl, hb, k⟩ := h; rfl
  · obtain ⟨a, ws, L, P, rfl, hO, hs, hl, hb, k⟩ := h
    refine ⟨_, (pss_cons (ps_if (pt_not (PW.pt (pw_and (pt_val (pe_call G_is_list (hr.mono (by decide)) rfl T.g_is_list T.F_is_list.kp T.b_is_list .nil pass0 (pa_cons (pv 0) pa_nil))) (pw_and1 (pt_cmpR op_le (pe_callB call_len_list (by rfl) T.m_len (by decide +kernel) (pa_cons (pv 0) pa_nil)) (pe_gint rfl T.c__MOST_NUMBERS) (nomark _))))))
          (pss_one (ps_ret pe_bl))
          pss_nil)
        (pss_one (ps_ret (pe_callB (cr_all rfl) (by rfl) T.m_all (by decide +kernel) (pa_cons (pe_lc (own := [("number", 1)]) (g := gName 1) (tt := tYes) rfl sc_are_whims.nd (pi_list (pv 0)) (blkOk_by (N := ["value", "number"]) (sc := defScope s_are_whims) (by decide +kernel)) (fun _ _ _ _ _ => pg_name (i := 1) sc_are_whims.nd rfl (Or.inl rfl)) (fun _ _ _ _ _ => pts_nil) (fun _ _ _ _ _ => (pe_call G_is_between (hr.mono (by decide)) rfl T.g_is_between T.F_is_between.kp T.b_is_between .nil pass0 (pa_cons (pv 1) (pa_cons pe_int (pa_cons (pe_gint rfl T.c__GREATEST) pa_nil)))))) pa_nil))))), ?_⟩
    clear G_is_list G_is_between
    clear hr
    have hs2 : OSq L P a (ws.map V.int) := .inl hs
    walk_at "go"
    intro H2 P2 sp2 hO
    have sl : SqL K H2 a (ws.map V.int) := SqL.of (hO.raw hs)
    walk_at "go"
    refine iteN (fun h => absurd (by simp; omega) h) (fun _ => ?_)
    walk_at "go"
    intro D hD
    refine lc_rawW (walk_ints (ns := ws)) ((List.replicate ws.length true).map V.bl) hO hD (by simp) (by omega) (fun H L' P' s t h => SqL.of (h.raw (s _ hs))) (fun i v y H9 H' P' Qy hi hv hy sp hO ky => ?_) (fun H5 P5 sp5 hO => ?_)
    · obtain ⟨rfl, hv⟩ := hv
      obtain ⟨z, rfl, hz⟩ := int_get hv
      rw [List.map_replicate] at hy
      obtain rfl := List.eq_of_mem_replicate (List.mem_of_getElem? hy)
      have hz2 := hb z (List.mem_of_getElem? hz)
      walk_at "go"
      refine qbl (ky _ _ ?_ hO) (decide_eq_true hz2)
      walk_at "ps"
    · walk_at "go"
      refine qbl (k H5 P5 ?_ ?_) (all_rep _)
      · exact fun q hq => sp5 q (sp2 q hq)
      · exact hO.sub (Sb.skip (Sb.refl _)) Ps.refl
def sp_winit (K : PySem.W.Frag) (C : Addr) : Sp := fun vs H Q _ => ∃ (x dx a : Addr) (ws : List Int) (R : List (Addr × Ob)) (P : List Pf), vs = [.ref x, .ref a] ∧ Own K H ((x, .raw (.ins C dx [])) :: (a, .raw (.lst (ws.map V.int))) :: R) P ∧ ws.length ≤ 200 ∧ (∀ z ∈ ws, 0 ≤ z ∧ z ≤ 1000000) ∧
  ∀ (n : Addr) (H' : Hp) (P' : List Pf), Ps P P' → Own K H' (wm C x dx n ws 0 ++ ((a, .raw (.lst (ws.map V.int))) :: R)) P' → Q .non H'
theorem ok_Whims_init (T : Txt w K mg) : FnOk P w K mg base CX0 4 T.f_Whims_init T.fd_Whims_init ["self", "numbers"] (sp_winit K T.C_Whims) := by
  have G_are_whims := ok_are_whims (P := P) (w := w) (base := base) T
  refine T.F_Whims_init.ok sc_Whims_init (fun vs H Q E h => ?_) (fun cdv A outer s H vs Q E hr h => ?_)
  · obtain ⟨x, dx, a, ws, R, P, rfl, hO, hl, hb, k⟩ := h; rfl
  · obtain ⟨x, dx, a, ws, R, P, rfl, hO, hl, hb, k⟩ := h
    refine ⟨_, (pss_cons (ps_if (pt_not (pt_val (pe_call G_are_whims (hr.mono (by decide)) rfl T.g_are_whims T.F_are_whims.kp T.b_are_whims .nil pass0 (pa_cons (pv 1) pa_nil))))
          (pss_one ps_never)
          pss_nil)
        (pss_cons (ps_fld (pv 0) (pe_callTy call_list_of (by rfl) T.m_list (by decide +kernel) (pa_cons (pv 1) pa_nil)) rfl)
        (pss_one (ps_fld (pv 0) pe_int rfl)))), ?_⟩
    clear G_are_whims
    clear hr
    simp only [wm, List.cons_append, List.nil_append] at k
    have hm : (a, Ob.raw (.lst (ws.map V.int))) ∈ (x, Ob.raw (.ins T.C_Whims dx [])) :: (a, Ob.raw (.lst (ws.map V.int))) :: R := by walk_at "mem"
    walk_at "go"
    intro H2 P2 sp2 hO
    walk_at "go"
    rename_i p _ _
    refine k p _ P2 sp2 ?_
    walk_at "fin"
def wdue (ws : List Int) (t : Nat) (m : Int) : Int := ws.getD t 0 % m
def sp_take (K : PySem.W.Frag) (C : Addr) : Sp := fun vs H Q _ => ∃ (x dx n : Addr) (ws : List Int) (t : Nat) (m : Int) (R : List (Addr × Ob)) (P : List Pf), vs = [.ref x, .int m] ∧ Own K H (wm C x dx n ws t ++ R) P ∧ 0 < m ∧ ∀ H' : Hp, Own K H' (wm C x dx n ws ((t + 1 : Nat) : Int) ++ R) P → Q (.int (wdue ws t m)) H'
theorem ok_Whims_take (T : Txt w K mg) : FnOk P w K mg base CX0 3 T.f_Whims_take T.fd_Whims_take ["self", "many"] (sp_take K T.C_Whims) := by
  have G_is_count := ok_is_count (P := P) (w := w) (base := base) T
  refine T.F_Whims_take.ok sc_Whims_take (fun vs H Q E h => ?_) (fun cdv A outer s H vs Q E hr h => ?_)
  · obtain ⟨x, dx, n, ws, t, m, R, P, rfl, hO, hm, k⟩ := h; rfl
  · obtain ⟨x, dx, n, ws, t, m, R, P, rfl, hO, hm, k⟩ := h
    refine ⟨_, (pss_cons (ps_if (pt_not (PW.pt (pw_and (pt_val (pe_call G_is_count (hr.mono (by decide)) rfl T.g_is_count T.F_is_count.kp T.b_is_count .nil pass0 (pa_cons (pv 1) pa_nil))) (pw_and1 (pt_cmpR op_gt (pv 1) pe_int (nomark _))))))
          (pss_one ps_never)
          pss_nil)
        (pss_cons (ps_set (i := 2) sc_Whims_take.nd rfl (Or.inl rfl) (pe_fld (pv 0) rfl))
        (pss_cons (ps_fld (pv 0) (pe_op op_add (pv 2) pe_int) rfl)
        (pss_cons (ps_if (pt_cmpR op_lt (pv 2) (pe_callB call_len_list (by rfl) T.m_len (by decide +kernel) (pa_cons (pe_fld (pv 0) rfl) pa_nil)) (nomark _))
          (pss_one (ps_ret (pe_op op_mod (pe_ix ix_list (pe_fld (pv 0) rfl) (pv 2) (fun _ _ => rfl)) (pv 1))))
          pss_nil)
        (pss_one (ps_ret pe_int)))))), ?_⟩
    clear G_is_count
    clear hr
    simp only [wm, List.cons_append, List.nil_append] at hO k
    walk_at "go"
    refine iteN (fun h => absurd hm h) (fun _ => ?_)
    walk_at "go"
    refine iteD (fun h => ?_) (fun h => ?_)
    · have ht : t < ws.length := by simpa using h
      have hg : atI (ws.map V.int) (t : Int) = some (.int ws[t]) := atI_nat (by rw [List.getElem?_map, List.getElem?_eq_getElem ht]; rfl)
      walk_at "go"
      refine qint (k _ hO) ?_
      unfold wdue
      rw [List.getD_eq_getElem?_getD, List.getElem?_eq_getElem ht]
      rfl
    · have ht : ws.length ≤ t := by simp at h; omega
      walk_at "go"
      refine qint (k _ hO) ?_
      unfold wdue
      rw [List.getD_eq_getElem?_getD, List.getElem?_eq_none ht]
      simp
def sp_taken (K : PySem.W.Frag) (C : Addr) : Sp := fun vs H Q _ => ∃ (x dx n : Addr) (ws : List Int) (t : Int) (R : List (Addr × Ob)) (P : List Pf), vs = [.ref x] ∧ Own K H (wm C x dx n ws t ++ R) P ∧ Q (.int t) H
theorem ok_Whims_taken (T : Txt w K mg) : FnOk P w K mg base CX0 1 T.f_Whims_taken T.fd_Whims_taken ["self"] (sp_taken K T.C_Whims) := by
  refine T.F_Whims_taken.ok sc_Whims_taken (fun vs H Q E h => ?_) (fun cdv A outer s H vs Q E hr h => ?_)
  · obtain ⟨x, dx, n, ws, t, R, P, rfl, hO, k⟩ := h; rfl
  · obtain ⟨x, dx, n, ws, t, R, P, rfl, hO, k⟩ := h
    refine ⟨_, (pss_one (ps_ret (pe_fld (pv 0) rfl))), ?_⟩
    clear hr
    simp only [wm, List.cons_append, List.nil_append] at hO
    walk_at "go"
def sp_nwhims (K : PySem.W.Frag) (C : Addr) : Sp := fun vs H Q _ => ∃ (x dx n : Addr) (ws : List Int) (t : Int) (R : List (Addr × Ob)) (P : List Pf), vs = [.ref x] ∧ Own K H (wm C x dx n ws t ++ R) P ∧ Q .non H
theorem ok_need_whims (T : Txt w K mg) : FnOk P w K mg base CX0 1 T.f_need_whims T.fd_need_whims ["value"] (sp_nwhims K T.C_Whims) := by
  refine T.F_need_whims.ok sc_need_whims (fun vs H Q E h => ?_) (fun cdv A outer s H vs Q E hr h => ?_)
  · obtain ⟨x, dx, n, ws, t, R, P, rfl, hO, k⟩ := h; rfl
  · obtain ⟨x, dx, n, ws, t, R, P, rfl, hO, k⟩ := h
    refine ⟨_, (pss_one (ps_if (pt_not (pt_val (pe_callB call_isi (by rfl) T.m_isinstance (by decide +kernel) (pa_cons (pv 0) (pa_cons (pe_glob (v := .ref T.C_Whims) rfl T.g_Whims rfl) pa_nil)))))
          (pss_one ps_never)
          pss_nil)), ?_⟩
    clear hr
    have hx : H x = some (.ins T.C_Whims dx (F_Whims (.ref n) (.int t))) := hO.raw (by walk_at "mem")
    have c1 := T.cl_Whims
    have cv : ClsV (.ref T.C_Whims) (.ref T.C_Whims) := .own _
    have ty : TyX K H (.ref x) (.ref T.C_Whims) := .base (.ins hx c1 T.ic_Whims T.in_Whims T.it_Whims T.im_Whims)
    have ks : PySem.W.kitOne K (.ref T.C_Whims) (.ref T.C_Whims) = some true := kit_self'
    walk_at "rd"
end
end K72

set_option Elab.async false
set_option linter.all false
set_option maxRecDepth 100000
set_option maxHeartbeats 8000000

namespace K72
open PySem PySem.Spec PyProof.Rows L2 Hx 
local macro_rules | `(tactic| walk_at "sm") => `(tactic| repeat' (first | assumption | apply Hx.Same.upd | exact L2.Same.refl _ | apply same_trans'))
local macro_rules | `(tactic| walk_at "hp") => `(tactic| repeat' (first | assumption | exact upd_same | apply old_upd | apply same_at))
local macro_rules | `(tactic| walk_at "rd") => `(tactic| repeat' (first | rfl | apply Exists.intro | apply And.intro | refine iteT ?_ | refine iteF ?_ | exact upd_same | exact SqL.of (by assumption) | exact SqL.of upd_same | exact SqT.of upd_same | exact SqT.of (by assumption) | ((with_reducible show (_ : Int) < _); omega) | ((with_reducible show (_ : Int) ≤ _); omega) | (show (_ : Prop); assumption) | exact Or.inl ⟨_, by assumption, rfl⟩ | exact Or.inl ⟨rfl, _, SqL.of (by assumption)⟩ | exact Or.inl ⟨rfl, _, SqL.of upd_same⟩ | apply old_upd | apply Hx.SqL.new | apply tyl_new | apply Pot.new | exact same_at (by assumption) (by assumption) | exact Or.inl (SqL.of (by assumption)) | exact Or.inl (by assumption) | exact Or.inl (SqL.of upd_same) | exact size_le (Nat.le_of_ble_eq_true rfl) | exact Nat.le_of_ble_eq_true rfl | exact True.intro | exact Or.inl rfl | exact Or.inr rfl | (show (_ : Prop); omega) | (show (_ : Prop); dsimp only; omega) | exact mulw64 (by omega) (by omega) | exact mulw64 (by (try dsimp only); omega) (by (try dsimp only); omega)))
set_option hygiene false in
local macro_rules | `(tactic| walk_at "fl") => `(tactic| simp only [pu_Whims_numbers, pi_Whims_numbers, pu_Whims_position, pi_Whims_position, pu_Stations_many, pi_Stations_many, pu_Stations_rows, pi_Stations_rows] at hO)
local macro_rules | `(tactic| walk_at "mem") => `(tactic| ((repeat (first | exact List.Mem.head _ | apply List.Mem.tail | fail)); done))
local macro_rules | `(tactic| walk_at "setat") => `(tactic| ((repeat (first | (with_reducible exact At.head) | (with_reducible apply At.tail) | (with_reducible apply At.app) | fail)); done))
set_option hygiene false in
local macro_rules | `(tactic| walk_at "dv") => `(tactic| ((repeat' (first | exact Dv.nil | exact Dv.of (by walk_at "mem") | exact Dv.ints _ | exact Dv1.of (by walk_at "mem") | exact Dv1.int _ | exact Dv1.non | exact Dv1.bl _ | exact Dv1.str _ | (with_reducible apply Dv.cons) | refine Dv1.tup (by walk_at "mem") ?_ | refine Dv1.lst (by walk_at "mem") ?_ | (with_reducible apply Dv.app) | fail)); done))
local macro_rules | `(tactic| walk_at "ft") => `(tactic| (first | (with_reducible exact Ft.refl) | ((with_reducible apply Ft.toL); focus walk_at "dv") | ((with_reducible apply Ft.toS); focus assumption) | (with_reducible apply Ft.lst) | (with_reducible apply Ft.Le) | (with_reducible apply Ft.dK) | (with_reducible apply Ft.De) | (with_reducible apply Ft.ins) | (with_reducible apply Ft.toL) | (with_reducible apply Ft.toS) | (with_reducible apply Ft.toD) | fail))
local macro_rules | `(tactic| walk_at "sbL") => `(tactic| repeat' (first | (with_reducible exact Sb.refl _) | exact Sb.nil | (with_reducible apply Sb.cons) | (with_reducible apply Sb.app) | (with_reducible exact Pk.one) | (with_reducible exact Pk.here) | (with_reducible exact Pk.all) | (with_reducible apply Pk.skip1) | (with_reducible apply Pk.skipB) | (with_reducible apply Sb.skip) | (with_reducible apply Sb.skipB) | ((with_reducible show Ft _ _ _ _); walk_at "ft") | ((with_reducible show (_ : List _) = _); (first | rfl | (simp [List.map_set, List.map_append]; done) | fail)) | fail))
local macro_rules | `(tactic| walk_at "sb") => `(tactic| ((walk_at "sbL"); done))
local macro_rules | `(tactic| walk_at "ps") => `(tactic| ((repeat' (first | (with_reducible exact Ps.refl) | exact Ps.nil | (with_reducible apply Ps.cons) | exact List.Mem.head _ | apply List.Mem.tail | (with_reducible apply Ps.skip) | fail)); done))
set_option hygiene false in
local macro_rules | `(tactic| walk_at "at") => `(tactic| first | assumption | exact Own.raw hO (by walk_at "mem") | exact Own.ptup hO (by walk_at "mem") | exact Own.plst hO (by walk_at "mem") | fail)
set_option hygiene false in
local macro_rules | `(tactic| walk_at "st") => `(tactic| (rw [upd_mkO hO]; generalize e : updX _ _ _ = H1; (first | ((apply Own.cset hO e); (focus walk_at "setat"); (try clear hO e); intro hO) | ((apply Own.cnewT hO e); (focus assumption); (try clear hO e); intro hO) | ((apply Own.cnew hO e); (focus assumption); (try clear hO e); intro hO) | fail)))
set_option hygiene false in
local macro_rules | `(tactic| walk_at "mk") => `(tactic| (intro p1 p2 f1 f2 f3; rw [upd_mkO hO]; generalize e : upd (updX _ _ _) _ _ = H1; apply Own.cmake hO f1 f2 f3 e; (try clear hO e); intro hO))
set_option hygiene false in
local macro_rules | `(tactic| walk_at "own") => `(tactic| (first | ((apply Own.sub hO); (focus walk_at "sb"); (focus walk_at "ps")) | ((apply Own.sub hF); (focus walk_at "sb"); (focus walk_at "ps")) | fail))
set_option hygiene false in
local macro_rules | `(tactic| walk_at "fin") => `(tactic| (refine Own.sub hO ?_ (by walk_at "ps"); walk_at "sbL"))
set_option hygiene false in
local macro_rules | `(tactic| walk_at "g1") => `(tactic| (first
 | ((with_reducible show (_ : Option HO) = _); walk_at "at")
 | ((with_reducible show (_ : Int) < _); omega) | ((with_reducible show (_ : Int) ≤ _); omega)
 | ((with_reducible show (_ : Nat) < _); (first | assumption | exact Nat.le_of_ble_eq_true rfl | exact size_lt (Nat.le_of_ble_eq_true rfl) | omega | (simp; done) | (simp; omega) | fail))
 | ((with_reducible show (_ : Nat) ≤ _); (first | assumption | exact Nat.le_of_ble_eq_true rfl | exact size_le (Nat.le_of_ble_eq_true rfl) | omega | (simp; done) | (simp; omega) | fail))
 | ((with_reducible show Own _ _ _ _); (first | walk_at "own" | (walk_at "st"; walk_at "own") | fail))
 | ((with_reducible show SqL _ _ _ _); (first | assumption | exact SqL.of (by walk_at "at") | fail))
 | ((with_reducible show SqT _ _ _ _); (first | assumption | exact hO.psq (by walk_at "mem") | exact SqT.of (by walk_at "at") | fail))
  | ((with_reducible show Cls _ _); exact Txt.cl_Whims T) | ((with_reducible show NoAttr _ _ _); exact Txt.n_Whims_numbers T) | (with_reducible exact gt_Whims_numbers) | ((with_reducible show NoAttr _ _ _); exact Txt.n_Whims_position T) | (with_reducible exact gt_Whims_position) | ((with_reducible show Cls _ _); exact Txt.cl_Stations T) | ((with_reducible show NoAttr _ _ _); exact Txt.n_Stations_many T) | (with_reducible exact gt_Stations_many) | ((with_reducible show NoAttr _ _ _); exact Txt.n_Stations_rows T) | (with_reducible exact gt_Stations_rows)  | ((with_reducible show V.ref _ = V.ref _); (first | rfl | fail))
 | ((with_reducible show DGet _ _ _ _); (first | exact DGet.ki (by walk_at "at") (by assumption) | exact DGet.kiF (by walk_at "at") (by assumption) | fail))
 | ((with_reducible show DPut _ _ _ _ _); exact DPut.ki (by walk_at "at") (by assumption))
 | ((with_reducible show Rd _ _ _); (first | exact Or.inl (by walk_at "at") | exact Or.inr ⟨_, by walk_at "at"⟩ | fail))
 | ((with_reducible show (∃ _ : List (Key × V), _) ∨ _); refine Or.inl ⟨_, by walk_at "at", ?_⟩)
 | ((with_reducible show Dv _ _ _ _); focus walk_at "dv") | ((with_reducible show Dv1 _ _ _ _); focus walk_at "dv")
 | ((with_reducible show IsD _ _); exact Or.inl ⟨_, Or.inl (by walk_at "at")⟩)
 | ((with_reducible show V.int _ = kV _); exact kV_int)
 | ((with_reducible show Option.isSome _ = true); (first | exact isSome_ofV (by assumption) | assumption | fail))
 | ((with_reducible show SqL _ _ _ _ ∨ SqT _ _ _ _); (first | exact Or.inl (by assumption) | exact Or.inr (by assumption) | exact Or.inl (SqL.of (by walk_at "at")) | exact Or.inr (SqT.of (by walk_at "at")) | fail))
 | ((with_reducible show Dp _ _ _ _); (first | assumption | exact hO.dpL (by walk_at "mem") | exact .lst (SqL.of (by walk_at "at")) (hO.all (by walk_at "dv")) | exact hO.one (by walk_at "dv") | fail))
 | ((with_reducible show TruV _ _ _ _); (first | exact Or.inl ⟨_, SqL.of (by walk_at "at"), rfl⟩ | exact Or.inr (Or.inr ⟨_, by walk_at "at", rfl⟩) | exact Or.inr (Or.inl ⟨_, SqT.of (by walk_at "at"), rfl⟩) | fail))
 | ((with_reducible show RgOk _ _); exact RgOk.of_le (by omega) (by omega) (by omega) (by omega))
 | rfl | (with_reducible assumption) | apply And.intro | apply Exists.intro | refine iteT ?_ | refine iteF ?_
 | (walk_at "st"; (try walk_at "fl"))
 | ((with_reducible show ∀ _ : Addr, _ = none → _); (fail_if_success (with_reducible show ∀ _ : Addr, _ = none → ∃ _ : Nat → Nat → Hp → Prop, _)); intro p fp; walk_at "st")
 | (refine Or.inl ⟨SqL.of (by walk_at "at"), ?_⟩) | (refine Or.inr ⟨SqT.of (by walk_at "at"), ?_⟩) | exact Or.inl ⟨_, by walk_at "at", rfl⟩ | exact Or.inl ⟨rfl, _, SqL.of (by walk_at "at")⟩ | exact tyl_of (by walk_at "at") | exact Or.inl (SqL.of (by walk_at "at")) | exact Or.inr (SqT.of (by walk_at "at")) | exact Or.inl (by walk_at "at") | exact size_le (Nat.le_of_ble_eq_true rfl) | exact Nat.le_of_ble_eq_true rfl | exact True.intro | exact Or.inl rfl | exact Or.inr rfl | (show (_ : Prop); assumption) | (show (_ : Prop); omega) | (show (_ : Prop); dsimp only; omega) | exact mulw64 (by omega) (by omega) | exact mulw64 (by (try dsimp only); omega) (by (try dsimp only); omega) | fail))
local macro_rules | `(tactic| walk_at "go") => `(tactic| repeat walk_at "g1")

section
variable {P : Program} {w : World} {K : PySem.W.Frag} {mg : Str → Option Value} {base : Heap}
def sp_isrp : Sp := fun vs H Q _ => ∃ i : Int, vs = [.int i] ∧ (0 ≤ i ∧ i < 48) ∧ Q (.bl true) H
theorem ok__is_register_place (T : Txt w K mg) : FnOk P w K mg base CX0 3 T.f__is_register_place T.fd__is_register_place ["value"] (sp_isrp) := by
  have G_is_between := ok_is_between (P := P) (w := w) (base := base) T
  refine T.F__is_register_place.ok sc__is_register_place (fun vs H Q E h => ?_) (fun cdv A outer s H vs Q E hr h => ?_)
  · obtain ⟨i, rfl, hi, k⟩ := h; rfl
  · obtain ⟨i, rfl, hi, k⟩ := h
    refine ⟨_, (pss_one (ps_ret (pe_call G_is_between (hr.mono (by decide)) rfl T.g_is_between T.F_is_between.kp T.b_is_between .nil pass0 (pa_cons (pv 0) (pa_cons pe_int (pa_cons (pe_op op_sub (pe_gint rfl T.c__REGISTER_PLACES) pe_int) pa_nil)))))), ?_⟩
    clear G_is_between
    clear hr
    walk_at "rd"
    exact qbl k (decide_eq_true (by omega))
def sp_nreads (K : PySem.W.Frag) : Sp := fun vs H Q _ => ∃ (a : Addr) (ws : List Int) (m : Int) (L : List (Addr × Ob)) (P : List Pf), vs = [.ref a, .int m] ∧ Own K H L P ∧ OSq L P a (ws.map V.int) ∧ (ws.length : Int) ≤ m ∧ ws.length ≤ 1000 ∧ (∀ z ∈ ws, 0 ≤ z ∧ z < 48) ∧ ∀ (H' : Hp) (P' : List Pf), Ps P P' → Own K H' L P' → Q .non H'
theorem ok__need_reads (T : Txt w K mg) : FnOk P w K mg base CX0 4 T.f__need_reads T.fd__need_reads ["value", "most"] (sp_nreads K) := by
  have G__is_register_place := ok__is_register_place (P := P) (w := w) (base := base) T
  have G_is_list := ok_is_list (P := P) (w := w) (base := base) T
  refine T.F__need_reads.ok sc__need_reads (fun vs H Q E h => ?_) (fun cdv A outer s H vs Q E hr h => ?_)
  · obtain ⟨a, ws, m, L, P, rfl, hO, hs, hl, hl2, hb, k⟩ := h; rfl
  · obtain ⟨a, ws, m, L, P, rfl, hO, hs, hl, hl2, hb, k⟩ := h
    refine ⟨_, (pss_one (ps_if (pt_not (PW.pt (pw_and (pt_val (pe_call G_is_list (hr.mono (by decide)) rfl T.g_is_list T.F_is_list.kp T.b_is_list .nil pass0 (pa_cons (pv 0) pa_nil))) (pw_and (pt_cmpR op_le (pe_callB call_len_seq (by rfl) T.m_len (by decide +kernel) (pa_cons (pv 0) pa_nil)) (pv 1) (nomark _)) (pw_and1 (pt_val (pe_callB (cr_all rfl) (by rfl) T.m_all (by decide +kernel) (pa_cons (pe_lc (own := [("place", 2)]) (g := gName 2) (tt := tYes) rfl sc__need_reads.nd (PI.or (pi_list (pv 0)) (pi_tup (pv 0))) (blkOk_by (N := ["value", "most", "place"]) (sc := defScope s__need_reads) (by decide +kernel)) (fun _ _ _ _ _ => pg_name (i := 2) sc__need_reads.nd rfl (Or.inl rfl)) (fun _ _ _ _ _ => pts_nil) (fun _ _ _ _ _ => (pe_call G__is_register_place (hr.mono (by decide)) rfl T.g__is_register_place T.F__is_register_place.kp T.b__is_register_place .nil pass0 (pa_cons (pv 2) pa_nil)))) pa_nil))))))))
          (pss_one ps_never)
          pss_nil)), ?_⟩
    clear G__is_register_place G_is_list
    clear hr
    walk_at "go"
    intro H2 P2 sp2 hO
    have sl : SqL K H2 a (ws.map V.int) ∨ SqT K H2 a (ws.map V.int) := by
      rcases hs with h | h
      · exact .inl (SqL.of (hO.raw h))
      · exact .inr (SqT.of (hO.ptup (sp2 _ h)))
    have hl' : ((ws.map V.int).length : Int) ≤ m := by rw [List.length_map]; exact hl
    walk_at "go"
    refine iteD (fun _ => ?_) (fun h => absurd hl' h)
    walk_at "go"
    rcases hs with h | h
    · refine Or.inl ?_
      have sl : SqL K H2 a (ws.map V.int) := SqL.of (hO.raw h)
      walk_at "go"
      intro D hD
      refine lc_rawW (walk_ints (ns := ws)) ((List.replicate ws.length true).map V.bl) hO hD (by simp) (by omega) (fun H L' P' s t q => SqL.of (q.raw (s _ h))) (fun i v y H9 H' P' Qy hi hv hy sp hO ky => ?_) (fun H5 P5 sp5 hO => ?_)
      · obtain ⟨rfl, hv⟩ := hv
        obtain ⟨z, rfl, hz⟩ := int_get hv
        rw [List.map_replicate] at hy
        obtain rfl := List.eq_of_mem_replicate (List.mem_of_getElem? hy)
        have hz2 := hb z (List.mem_of_getElem? hz)
        walk_at "go"
        refine ky _ _ ?_ hO
        walk_at "ps"
      · walk_at "go"
        rw [all_rep]
        walk_at "go"
        refine k H5 P5 ?_ ?_
        · exact fun q hq => sp5 q (sp2 q hq)
        · exact hO.sub (Sb.skip (Sb.refl _)) Ps.refl
    · refine Or.inr ?_
      have sl : SqT K H2 a (ws.map V.int) := SqT.of (hO.ptup (sp2 _ h))
      walk_at "go"
      intro D hD
      refine lc_rawW (walk_intsT (ns := ws)) ((List.replicate ws.length true).map V.bl) hO hD (by simp) (by omega) (fun H L' P' s t q => SqT.of (q.ptup (t _ (sp2 _ h)))) (fun i v y H9 H' P' Qy hi hv hy sp hO ky => ?_) (fun H5 P5 sp5 hO => ?_)
      · obtain ⟨rfl, hv⟩ := hv
        obtain ⟨z, rfl, hz⟩ := int_get hv
        rw [List.map_replicate] at hy
        obtain rfl := List.eq_of_mem_replicate (List.mem_of_getElem? hy)
        have hz2 := hb z (List.mem_of_getElem? hz)
        walk_at "go"
        refine ky _ _ ?_ hO
        walk_at "ps"
      · walk_at "go"
        rw [all_rep]
        walk_at "go"
        refine k H5 P5 ?_ ?_
        · exact fun q hq => sp5 q (sp2 q hq)
        · exact hO.sub (Sb.skip (Sb.refl _)) Ps.refl
end
end K72

set_option Elab.async false
set_option linter.all false
set_option maxRecDepth 100000
set_option maxHeartbeats 8000000

namespace K72
open PySem PySem.Spec PyProof.Rows L2 Hx 
local macro_rules | `(tactic| walk_at "sm") => `(tactic| repeat' (first | assumption | apply Hx.Same.upd | exact L2.Same.refl _ | apply same_trans'))
local macro_rules | `(tactic| walk_at "hp") => `(tactic| repeat' (first | assumption | exact upd_same | apply old_upd | apply same_at))
local macro_rules | `(tactic| walk_at "rd") => `(tactic| repeat' (first | rfl | apply Exists.intro | apply And.intro | refine iteT ?_ | refine iteF ?_ | exact upd_same | exact SqL.of (by assumption) | exact SqL.of upd_same | exact SqT.of upd_same | exact SqT.of (by assumption) | ((with_reducible show (_ : Int) < _); omega) | ((with_reducible show (_ : Int) ≤ _); omega) | (show (_ : Prop); assumption) | exact Or.inl ⟨_, by assumption, rfl⟩ | exact Or.inl ⟨rfl, _, SqL.of (by assumption)⟩ | exact Or.inl ⟨rfl, _, SqL.of upd_same⟩ | apply old_upd | apply Hx.SqL.new | apply tyl_new | apply Pot.new | exact same_at (by assumption) (by assumption) | exact Or.inl (SqL.of (by assumption)) | exact Or.inl (by assumption) | exact Or.inl (SqL.of upd_same) | exact size_le (Nat.le_of_ble_eq_true rfl) | exact Nat.le_of_ble_eq_true rfl | exact True.intro | exact Or.inl rfl | exact Or.inr rfl | (show (_ : Prop); omega) | (show (_ : Prop); dsimp only; omega) | exact mulw64 (by omega) (by omega) | exact mulw64 (by (try dsimp only); omega) (by (try dsimp only); omega)))
set_option hygiene false in
local macro_rules | `(tactic| walk_at "fl") => `(tactic| simp only [pu_Whims_numbers, pi_Whims_numbers, pu_Whims_position, pi_Whims_position, pu_Stations_many, pi_Stations_many, pu_Stations_rows, pi_Stations_rows] at hO)
local macro_rules | `(tactic| walk_at "mem") => `(tactic| ((repeat (first | exact List.Mem.head _ | apply List.Mem.tail | fail)); done))
local macro_rules | `(tactic| walk_at "setat") => `(tactic| ((repeat (first | (with_reducible exact At.head) | (with_reducible apply At.tail) | (with_reducible apply At.app) | fail)); done))
set_option hygiene false in
local macro_rules | `(tactic| walk_at "dv") => `(tactic| ((repeat' (first | exact Dv.nil | exact Dv.of (by walk_at "mem") | exact Dv.ints _ | exact Dv1.of (by walk_at "mem") | exact Dv1.int _ | exact Dv1.non | exact Dv1.bl _ | exact Dv1.str _ | (with_reducible apply Dv.cons) | refine Dv1.tup (by walk_at "mem") ?_ | refine Dv1.lst (by walk_at "mem") ?_ | (with_reducible apply Dv.app) | fail)); done))
local macro_rules | `(tactic| walk_at "ft") => `(tactic| (first | (with_reducible exact Ft.refl) | ((with_reducible apply Ft.toL); focus walk_at "dv") | ((with_reducible apply Ft.toS); focus assumption) | (with_reducible apply Ft.lst) | (with_reducible apply Ft.Le) | (with_reducible apply Ft.dK) | (with_reducible apply Ft.De) | (with_reducible apply Ft.ins) | (with_reducible apply Ft.toL) | (with_reducible apply Ft.toS) | (with_reducible apply Ft.toD) | fail))
local macro_rules | `(tactic| walk_at "sbL") => `(tactic| repeat' (first | (with_reducible exact Sb.refl _) | exact Sb.nil | (with_reducible apply Sb.cons) | (with_reducible apply Sb.app) | (with_reducible exact Pk.one) | (with_reducible exact Pk.here) | (with_reducible exact Pk.all) | (with_reducible apply Pk.skip1) | (with_reducible apply Pk.skipB) | (with_reducible apply Sb.skip) | (with_reducible apply Sb.skipB) | ((with_reducible show Ft _ _ _ _); walk_at "ft") | ((with_reducible show (_ : List _) = _); (first | rfl | (simp [List.map_set, List.map_append]; done) | fail)) | fail))
local macro_rules | `(tactic| walk_at "sb") => `(tactic| ((walk_at "sbL"); done))
local macro_rules | `(tactic| walk_at "ps") => `(tactic| ((repeat' (first | (with_reducible exact Ps.refl) | exact Ps.nil | (with_reducible apply Ps.cons) | exact List.Mem.head _ | apply List.Mem.tail | (with_reducible apply Ps.skip) | fail)); done))
set_option hygiene false in
local macro_rules | `(tactic| walk_at "at") => `(tactic| first | assumption | exact Own.raw hO (by walk_at "mem") | exact Own.ptup hO (by walk_at "mem") | exact Own.plst hO (by walk_at "mem") | fail)
set_option hygiene false in
local macro_rules | `(tactic| walk_at "st") => `(tactic| (rw [upd_mkO hO]; generalize e : updX _ _ _ = H1; (first | ((apply Own.cset hO e); (focus walk_at "setat"); (try clear hO e); intro hO) | ((apply Own.cnewT hO e); (focus assumption); (try clear hO e); intro hO) | ((apply Own.cnew hO e); (focus assumption); (try clear hO e); intro hO) | fail)))
set_option hygiene false in
local macro_rules | `(tactic| walk_at "mk") => `(tactic| (intro p1 p2 f1 f2 f3; rw [upd_mkO hO]; generalize e : upd (updX _ _ _) _ _ = H1; apply Own.cmake hO f1 f2 f3 e; (try clear hO e); intro hO))
set_option hygiene false in
local macro_rules | `(tactic| walk_at "own") => `(tactic| (first | ((apply Own.sub hO); (focus walk_at "sb"); (focus walk_at "ps")) | ((apply Own.sub hF); (focus walk_at "sb"); (focus walk_at "ps")) | fail))
set_option hygiene false in
local macro_rules | `(tactic| walk_at "fin") => `(tactic| (refine Own.sub hO ?_ (by walk_at "ps"); walk_at "sbL"))
set_option hygiene false in
local macro_rules | `(tactic| walk_at "g1") => `(tactic| (first
 | ((with_reducible show (_ : Option HO) = _); walk_at "at")
 | ((with_reducible show (_ : Int) < _); omega) | ((with_reducible show (_ : Int) ≤ _); omega)
 | ((with_reducible show (_ : Nat) < _); (first | assumption | exact Nat.le_of_ble_eq_true rfl | exact size_lt (Nat.le_of_ble_eq_true rfl) | omega | (simp; done) | (simp; omega) | fail))
 | ((with_reducible show (_ : Nat) ≤ _); (first | assumption | exact Nat.le_of_ble_eq_true rfl | exact size_le (Nat.le_of_ble_eq_true rfl) | omega | (simp; done) | (simp; omega) | fail))
 | ((with_reducible show Own _ _ _ _); (first | walk_at "own" | (walk_at "st"; walk_at "own") | fail))
 | ((with_reducible show SqL _ _ _ _); (first | assumption | exact SqL.of (by walk_at "at") | fail))
 | ((with_reducible show SqT _ _ _ _); (first | assumption | exact hO.psq (by walk_at "mem") | exact SqT.of (by walk_at "at") | fail))
  | ((with_reducible show Cls _ _); exact Txt.cl_Whims T) | ((with_reducible show NoAttr _ _ _); exact Txt.n_Whims_numbers T) | (with_reducible exact gt_Whims_numbers) | ((with_reducible show NoAttr _ _ _); exact Txt.n_Whims_position T) | (with_reducible exact gt_Whims_position) | ((with_reducible show Cls _ _); exact Txt.cl_Stations T) | ((with_reducible show NoAttr _ _ _); exact Txt.n_Stations_many T) | (with_reducible exact gt_Stations_many) | ((with_reducible show NoAttr _ _ _); exact Txt.n_Stations_rows T) | (with_reducible exact gt_Stations_rows)  | ((with_reducible show V.ref _ = V.ref _); (first | rfl | fail))
 | ((with_reducible show DGet _ _ _ _); (first | exact DGet.ki (by walk_at "at") (by assumption) | exact DGet.kiF (by walk_at "at") (by assumption) | fail))
 | ((with_reducible show DPut _ _ _ _ _); exact DPut.ki (by walk_at "at") (by assumption))
 | ((with_reducible show Rd _ _ _); (first | exact Or.inl (by walk_at "at") | exact Or.inr ⟨_, by walk_at "at"⟩ | fail))
 | ((with_reducible show (∃ _ : List (Key × V), _) ∨ _); refine Or.inl ⟨_, by walk_at "at", ?_⟩)
 | ((with_reducible show Dv _ _ _ _); focus walk_at "dv") | ((with_reducible show Dv1 _ _ _ _); focus walk_at "dv")
 | ((with_reducible show IsD _ _); exact Or.inl ⟨_, Or.inl (by walk_at "at")⟩)
 | ((with_reducible show V.int _ = kV _); exact kV_int)
 | ((with_reducible show Option.isSome _ = true); (first | exact isSome_ofV (by assumption) | assumption | fail))
 | ((with_reducible show SqL _ _ _ _ ∨ SqT _ _ _ _); (first | exact Or.inl (by assumption) | exact Or.inr (by assumption) | exact Or.inl (SqL.of (by walk_at "at")) | exact Or.inr (SqT.of (by walk_at "at")) | fail))
 | ((with_reducible show Dp _ _ _ _); (first | assumption | exact hO.dpL (by walk_at "mem") | exact .lst (SqL.of (by walk_at "at")) (hO.all (by walk_at "dv")) | exact hO.one (by walk_at "dv") | fail))
 | ((with_reducible show TruV _ _ _ _); (first | exact Or.inl ⟨_, SqL.of (by walk_at "at"), rfl⟩ | exact Or.inr (Or.inr ⟨_, by walk_at "at", rfl⟩) | exact Or.inr (Or.inl ⟨_, SqT.of (by walk_at "at"), rfl⟩) | fail))
 | ((with_reducible show RgOk _ _); exact RgOk.of_le (by omega) (by omega) (by omega) (by omega))
 | rfl | (with_reducible assumption) | apply And.intro | apply Exists.intro | refine iteT ?_ | refine iteF ?_
 | (walk_at "st"; (try walk_at "fl"))
 | ((with_reducible show ∀ _ : Addr, _ = none → _); (fail_if_success (with_reducible show ∀ _ : Addr, _ = none → ∃ _ : Nat → Nat → Hp → Prop, _)); intro p fp; walk_at "st")
 | (refine Or.inl ⟨SqL.of (by walk_at "at"), ?_⟩) | (refine Or.inr ⟨SqT.of (by walk_at "at"), ?_⟩) | exact Or.inl ⟨_, by walk_at "at", rfl⟩ | exact Or.inl ⟨rfl, _, SqL.of (by walk_at "at")⟩ | exact tyl_of (by walk_at "at") | exact Or.inl (SqL.of (by walk_at "at")) | exact Or.inr (SqT.of (by walk_at "at")) | exact Or.inl (by walk_at "at") | exact size_le (Nat.le_of_ble_eq_true rfl) | exact Nat.le_of_ble_eq_true rfl | exact True.intro | exact Or.inl rfl | exact Or.inr rfl | (show (_ : Prop); assumption) | (show (_ : Prop); omega) | (show (_ : Prop); dsimp only; omega) | exact mulw64 (by omega) (by omega) | exact mulw64 (by (try dsimp only); omega) (by (try dsimp only); omega) | fail))
local macro_rules | `(tactic| walk_at "go") => `(tactic| repeat walk_at "g1")

section
variable {P : Program} {w : World} {K : PySem.W.Frag} {mg : Str → Option Value} {base : Heap}
def sp_sinit (K : PySem.W.Frag) (C : Addr) : Sp := fun vs H Q _ => ∃ (x dx : Addr) (m : Int) (R : List (Addr × Ob)) (P : List Pf), vs = [.ref x, .int m] ∧ (1 ≤ m ∧ m ≤ 32) ∧ Own K H ((x, .raw (.ins C dx [])) :: R) P ∧
  ∀ (d : Addr) (H' : Hp), Own K H' (stn C x dx d m [] ++ R) P → Q .non H'
theorem ok_Stations_init (T : Txt w K mg) : FnOk P w K mg base CX0 4 T.f_Stations_init T.fd_Stations_init ["self", "many"] (sp_sinit K T.C_Stations) := by
  have G_need_many := ok_need_many (P := P) (w := w) (base := base) T
  refine T.F_Stations_init.ok sc_Stations_init (fun vs H Q E h => ?_) (fun cdv A outer s H vs Q E hr h => ?_)
  · obtain ⟨x, dx, m, R, P, rfl, hm, hO, k⟩ := h; rfl
  · obtain ⟨x, dx, m, R, P, rfl, hm, hO, k⟩ := h
    refine ⟨_, (pss_cons (ps_expr (pe_call G_need_many (hr.mono (by decide)) rfl T.g_need_many T.F_need_many.kp T.b_need_many .nil pass0 (pa_cons (pv 1) (pa_cons pe_int (pa_cons (pe_gint rfl T.c__MOST_ROWS) pa_nil)))))
        (pss_cons (ps_fld (pv 0) (pv 1) rfl)
        (pss_one (ps_fld (pv 0) pe_dnewK rfl)))), ?_⟩
    clear G_need_many
    clear hr
    simp only [stn, List.cons_append, List.nil_append] at k
    walk_at "go"
    refine fun d fd => ?_
    walk_at "st"
    walk_at "go"
    apply k
    walk_at "fin"
    exact Dv.nil
def skeys (rs : List SR) : List Int := rs.map fun r => r.1
theorem sD_keys (rs : List SR) : (sD rs).map Prod.fst = skeys rs := by rw [sD, List.map_map]; rfl
theorem sD_len (rs : List SR) : (sD rs).length = rs.length := by rw [sD, List.length_map]
def sp_held (K : PySem.W.Frag) (C : Addr) : Sp := fun vs H Q _ => ∃ (x dx d : Addr) (m : Int) (rs : List SR) (R : List (Addr × Ob)) (P : List Pf), vs = [.ref x] ∧ Own K H (stn C x dx d m rs ++ R) P ∧ Q (.int (rs.length : Int)) H
theorem ok_Stations_held (T : Txt w K mg) : FnOk P w K mg base CX0 1 T.f_Stations_held T.fd_Stations_held ["self"] (sp_held K T.C_Stations) := by
  refine T.F_Stations_held.ok sc_Stations_held (fun vs H Q E h => ?_) (fun cdv A outer s H vs Q E hr h => ?_)
  · obtain ⟨x, dx, d, m, rs, R, P, rfl, hO, k⟩ := h; rfl
  · obtain ⟨x, dx, d, m, rs, R, P, rfl, hO, k⟩ := h
    refine ⟨_, (pss_one (ps_ret (pe_callB call_lenD (by rfl) T.m_len (by decide +kernel) (pa_cons (pe_fld (pv 0) rfl) pa_nil)))), ?_⟩
    clear hr
    simp only [stn, List.cons_append, List.nil_append] at hO
    obtain ⟨kvs, hk, o1⟩ := hO.openD (a := d) (by walk_at "mem")
    replace hO := o1 _ (by walk_at "setat")
    have hl := ik_len hk
    walk_at "go"
    exact qint k (by rw [hl, sD_len])
end
end K72

set_option Elab.async false
set_option linter.all false
set_option maxRecDepth 100000
set_option maxHeartbeats 8000000

namespace K72
open PySem PySem.Spec PyProof.Rows L2 Hx 
local macro_rules | `(tactic| walk_at "sm") => `(tactic| repeat' (first | assumption | apply Hx.Same.upd | exact L2.Same.refl _ | apply same_trans'))
local macro_rules | `(tactic| walk_at "hp") => `(tactic| repeat' (first | assumption | exact upd_same | apply old_upd | apply same_at))
local macro_rules | `(tactic| walk_at "rd") => `(tactic| repeat' (first | rfl | apply Exists.intro | apply And.intro | refine iteT ?_ | refine iteF ?_ | exact upd_same | exact SqL.of (by assumption) | exact SqL.of upd_same | exact SqT.of upd_same | exact SqT.of (by assumption) | ((with_reducible show (_ : Int) < _); omega) | ((with_reducible show (_ : Int) ≤ _); omega) | (show (_ : Prop); assumption) | exact Or.inl ⟨_, by assumption, rfl⟩ | exact Or.inl ⟨rfl, _, SqL.of (by assumption)⟩ | exact Or.inl ⟨rfl, _, SqL.of upd_same⟩ | apply old_upd | apply Hx.SqL.new | apply tyl_new | apply Pot.new | exact same_at (by assumption) (by assumption) | exact Or.inl (SqL.of (by assumption)) | exact Or.inl (by assumption) | exact Or.inl (SqL.of upd_same) | exact size_le (Nat.le_of_ble_eq_true rfl) | exact Nat.le_of_ble_eq_true rfl | exact True.intro | exact Or.inl rfl | exact Or.inr rfl | (show (_ : Prop); omega) | (show (_ : Prop); dsimp only; omega) | exact mulw64 (by omega) (by omega) | exact mulw64 (by (try dsimp only); omega) (by (try dsimp only); omega)))
set_option hygiene false in
local macro_rules | `(tactic| walk_at "fl") => `(tactic| simp only [pu_Whims_numbers, pi_Whims_numbers, pu_Whims_position, pi_Whims_position, pu_Stations_many, pi_Stations_many, pu_Stations_rows, pi_Stations_rows] at hO)
local macro_rules | `(tactic| walk_at "mem") => `(tactic| ((repeat (first | exact List.Mem.head _ | apply List.Mem.tail | fail)); done))
local macro_rules | `(tactic| walk_at "setat") => `(tactic| ((repeat (first | (with_reducible exact At.head) | (with_reducible apply At.tail) | (with_reducible apply At.app) | fail)); done))
set_option hygiene false in
local macro_rules | `(tactic| walk_at "dv") => `(tactic| ((repeat' (first | exact Dv.nil | exact Dv.of (by walk_at "mem") | exact Dv.ints _ | exact Dv1.of (by walk_at "mem") | exact Dv1.int _ | exact Dv1.non | exact Dv1.bl _ | exact Dv1.str _ | (with_reducible apply Dv.cons) | refine Dv1.tup (by walk_at "mem") ?_ | refine Dv1.lst (by walk_at "mem") ?_ | (with_reducible apply Dv.app) | fail)); done))
local macro_rules | `(tactic| walk_at "ft") => `(tactic| (first | (with_reducible exact Ft.refl) | ((with_reducible apply Ft.toL); focus walk_at "dv") | ((with_reducible apply Ft.toS); focus assumption) | (with_reducible apply Ft.lst) | (with_reducible apply Ft.Le) | (with_reducible apply Ft.dK) | (with_reducible apply Ft.De) | (with_reducible apply Ft.ins) | (with_reducible apply Ft.toL) | (with_reducible apply Ft.toS) | (with_reducible apply Ft.toD) | fail))
local macro_rules | `(tactic| walk_at "sbL") => `(tactic| repeat' (first | (with_reducible exact Sb.refl _) | exact Sb.nil | (with_reducible apply Sb.cons) | (with_reducible apply Sb.app) | (with_reducible exact Pk.one) | (with_reducible exact Pk.here) | (with_reducible exact Pk.all) | (with_reducible apply Pk.skip1) | (with_reducible apply Pk.skipB) | (with_reducible apply Sb.skip) | (with_reducible apply Sb.skipB) | ((with_reducible show Ft _ _ _ _); walk_at "ft") | ((with_reducible show (_ : List _) = _); (first | rfl | (simp [List.map_set, List.map_append]; done) | fail)) | fail))
local macro_rules | `(tactic| walk_at "sb") => `(tactic| ((walk_at "sbL"); done))
local macro_rules | `(tactic| walk_at "ps") => `(tactic| ((repeat' (first | (with_reducible exact Ps.refl) | exact Ps.nil | (with_reducible apply Ps.cons) | exact List.Mem.head _ | apply List.Mem.tail | (with_reducible apply Ps.skip) | fail)); done))
set_option hygiene false in
local macro_rules | `(tactic| walk_at "at") => `(tactic| first | assumption | exact Own.raw hO (by walk_at "mem") | exact Own.ptup hO (by walk_at "mem") | exact Own.plst hO (by walk_at "mem") | fail)
set_option hygiene false in
local macro_rules | `(tactic| walk_at "st") => `(tactic| (rw [upd_mkO hO]; generalize e : updX _ _ _ = H1; (first | ((apply Own.cset hO e); (focus walk_at "setat"); (try clear hO e); intro hO) | ((apply Own.cnewT hO e); (focus assumption); (try clear hO e); intro hO) | ((apply Own.cnew hO e); (focus assumption); (try clear hO e); intro hO) | fail)))
set_option hygiene false in
local macro_rules | `(tactic| walk_at "mk") => `(tactic| (intro p1 p2 f1 f2 f3; rw [upd_mkO hO]; generalize e : upd (updX _ _ _) _ _ = H1; apply Own.cmake hO f1 f2 f3 e; (try clear hO e); intro hO))
set_option hygiene false in
local macro_rules | `(tactic| walk_at "own") => `(tactic| (first | ((apply Own.sub hO); (focus walk_at "sb"); (focus walk_at "ps")) | ((apply Own.sub hF); (focus walk_at "sb"); (focus walk_at "ps")) | fail))
set_option hygiene false in
local macro_rules | `(tactic| walk_at "fin") => `(tactic| (refine Own.sub hO ?_ (by walk_at "ps"); walk_at "sbL"))
set_option hygiene false in
local macro_rules | `(tactic| walk_at "g1") => `(tactic| (first
 | ((with_reducible show (_ : Option HO) = _); walk_at "at")
 | ((with_reducible show (_ : Int) < _); omega) | ((with_reducible show (_ : Int) ≤ _); omega)
 | ((with_reducible show (_ : Nat) < _); (first | assumption | exact Nat.le_of_ble_eq_true rfl | exact size_lt (Nat.le_of_ble_eq_true rfl) | omega | (simp; done) | (simp; omega) | fail))
 | ((with_reducible show (_ : Nat) ≤ _); (first | assumption | exact Nat.le_of_ble_eq_true rfl | exact size_le (Nat.le_of_ble_eq_true rfl) | omega | (simp; done) | (simp; omega) | fail))
 | ((with_reducible show Own _ _ _ _); (first | walk_at "own" | (walk_at "st"; walk_at "own") | fail))
 | ((with_reducible show SqL _ _ _ _); (first | assumption | exact SqL.of (by walk_at "at") | fail))
 | ((with_reducible show SqT _ _ _ _); (first | assumption | exact hO.psq (by walk_at "mem") | exact SqT.of (by walk_at "at") | fail))
  | ((with_reducible show Cls _ _); exact Txt.cl_Whims T) | ((with_reducible show NoAttr _ _ _); exact Txt.n_Whims_numbers T) | (with_reducible exact gt_Whims_numbers) | ((with_reducible show NoAttr _ _ _); exact Txt.n_Whims_position T) | (with_reducible exact gt_Whims_position) | ((with_reducible show Cls _ _); exact Txt.cl_Stations T) | ((with_reducible show NoAttr _ _ _); exact Txt.n_Stations_many T) | (with_reducible exact gt_Stations_many) | ((with_reducible show NoAttr _ _ _); exact Txt.n_Stations_rows T) | (with_reducible exact gt_Stations_rows)  | ((with_reducible show V.ref _ = V.ref _); (first | rfl | fail))
 | ((with_reducible show DGet _ _ _ _); (first | exact DGet.ki (by walk_at "at") (by assumption) | exact DGet.kiF (by walk_at "at") (by assumption) | fail))
 | ((with_reducible show DPut _ _ _ _ _); exact DPut.ki (by walk_at "at") (by assumption))
 | ((with_reducible show Rd _ _ _); (first | exact Or.inl (by walk_at "at") | exact Or.inr ⟨_, by walk_at "at"⟩ | fail))
 | ((with_reducible show (∃ _ : List (Key × V), _) ∨ _); refine Or.inl ⟨_, by walk_at "at", ?_⟩)
 | ((with_reducible show Dv _ _ _ _); focus walk_at "dv") | ((with_reducible show Dv1 _ _ _ _); focus walk_at "dv")
 | ((with_reducible show IsD _ _); exact Or.inl ⟨_, Or.inl (by walk_at "at")⟩)
 | ((with_reducible show V.int _ = kV _); exact kV_int)
 | ((with_reducible show Option.isSome _ = true); (first | exact isSome_ofV (by assumption) | assumption | fail))
 | ((with_reducible show SqL _ _ _ _ ∨ SqT _ _ _ _); (first | exact Or.inl (by assumption) | exact Or.inr (by assumption) | exact Or.inl (SqL.of (by walk_at "at")) | exact Or.inr (SqT.of (by walk_at "at")) | fail))
 | ((with_reducible show Dp _ _ _ _); (first | assumption | exact hO.dpL (by walk_at "mem") | exact .lst (SqL.of (by walk_at "at")) (hO.all (by walk_at "dv")) | exact hO.one (by walk_at "dv") | fail))
 | ((with_reducible show TruV _ _ _ _); (first | exact Or.inl ⟨_, SqL.of (by walk_at "at"), rfl⟩ | exact Or.inr (Or.inr ⟨_, by walk_at "at", rfl⟩) | exact Or.inr (Or.inl ⟨_, SqT.of (by walk_at "at"), rfl⟩) | fail))
 | ((with_reducible show RgOk _ _); exact RgOk.of_le (by omega) (by omega) (by omega) (by omega))
 | rfl | (with_reducible assumption) | apply And.intro | apply Exists.intro | refine iteT ?_ | refine iteF ?_
 | (walk_at "st"; (try walk_at "fl"))
 | ((with_reducible show ∀ _ : Addr, _ = none → _); (fail_if_success (with_reducible show ∀ _ : Addr, _ = none → ∃ _ : Nat → Nat → Hp → Prop, _)); intro p fp; walk_at "st")
 | (refine Or.inl ⟨SqL.of (by walk_at "at"), ?_⟩) | (refine Or.inr ⟨SqT.of (by walk_at "at"), ?_⟩) | exact Or.inl ⟨_, by walk_at "at", rfl⟩ | exact Or.inl ⟨rfl, _, SqL.of (by walk_at "at")⟩ | exact tyl_of (by walk_at "at") | exact Or.inl (SqL.of (by walk_at "at")) | exact Or.inr (SqT.of (by walk_at "at")) | exact Or.inl (by walk_at "at") | exact size_le (Nat.le_of_ble_eq_true rfl) | exact Nat.le_of_ble_eq_true rfl | exact True.intro | exact Or.inl rfl | exact Or.inr rfl | (show (_ : Prop); assumption) | (show (_ : Prop); omega) | (show (_ : Prop); dsimp only; omega) | exact mulw64 (by omega) (by omega) | exact mulw64 (by (try dsimp only); omega) (by (try dsimp only); omega) | fail))
local macro_rules | `(tactic| walk_at "go") => `(tactic| repeat walk_at "g1")

section
variable {P : Program} {w : World} {K : PySem.W.Frag} {mg : Str → Option Value} {base : Heap}
theorem s_none {rs : List SR} {n : Int} (h : n ∉ skeys rs) : valD (ik (sD rs)) (Sum.inl n) = none := by
  rw [ik_val, Option.map_eq_none_iff, List.find?_eq_none]
  intro r hr e
  have e' : r.1 = n := of_decide_eq_true e
  obtain ⟨u, hu, rfl⟩ := List.mem_map.mp hr
  exact h (List.mem_map.mpr ⟨u, hu, e'⟩)
/-- what is waited for -/
def wt (reads ready : List Int) : List Int := uq (reads.filter fun z => decide (z ∉ ready))
def sp_put (K : PySem.W.Frag) (C : Addr) : Sp := fun vs H Q _ => ∃ (x dx d ta la : Addr) (m n : Int) (rs : List SR) (reads ready : List Int) (R : List (Addr × Ob)) (P : List Pf), vs = [.ref x, .int n, .ref ta, .ref la] ∧ Own K H (stn C x dx d m rs ++ ((la, .raw (.lst (ready.map V.int))) :: R)) P ∧ Pf.tup ta (reads.map V.int) ∈ P ∧
  0 ≤ n ∧ n ∉ skeys rs ∧ reads.length ≤ 3 ∧ ready.length ≤ 48 ∧ (∀ z ∈ reads, 0 ≤ z ∧ z < 48) ∧ (∀ z ∈ ready, 0 ≤ z ∧ z < 48) ∧ (rs.length : Int) ≠ m ∧ rs.length ≤ 1000 ∧
  ∀ (H' : Hp) (P' : List Pf), Ps P P' → Own K H' (stn C x dx d m (rs ++ [(n, reads, wt reads ready)]) ++ ((la, .raw (.lst (ready.map V.int))) :: R)) P' → Q .non H'
theorem ok_Stations_put (T : Txt w K mg) : FnOk P w K mg base CX0 5 T.f_Stations_put T.fd_Stations_put ["self", "number", "reads", "ready"] (sp_put K T.C_Stations) := by
  have G_need_number := ok_need_number (P := P) (w := w) (base := base) T
  have G__need_reads := ok__need_reads (P := P) (w := w) (base := base) T
  refine T.F_Stations_put.ok sc_Stations_put (fun vs H Q E h => ?_) (fun cdv A outer s H vs Q E hr h => ?_)
  · obtain ⟨x, dx, d, ta, la, m, n, rs, reads, ready, R, P, rfl, hO, ht, hn, hni, hl1, hl2, hb1, hb2, hnm, hz, k⟩ := h; rfl
  · obtain ⟨x, dx, d, ta, la, m, n, rs, reads, ready, R, P, rfl, hO, ht, hn, hni, hl1, hl2, hb1, hb2, hnm, hz, k⟩ := h
    refine ⟨_, (pss_cons (ps_expr (pe_call G_need_number (hr.mono (by decide)) rfl T.g_need_number T.F_need_number.kp T.b_need_number .nil pass0 (pa_cons (pv 1) pa_nil)))
        (pss_cons (ps_expr (pe_call G__need_reads (hr.mono (by decide)) rfl T.g__need_reads T.F__need_reads.kp T.b__need_reads .nil pass0 (pa_cons (pv 2) (pa_cons (pe_gint rfl T.c__MOST_READS) pa_nil))))
        (pss_cons (ps_expr (pe_call G__need_reads (hr.mono (by decide)) rfl T.g__need_reads T.F__need_reads.kp T.b__need_reads .nil pass0 (pa_cons (pv 3) (pa_cons (pe_gint rfl T.c__MOST_READY) pa_nil))))
        (pss_cons (ps_if (pt_cmp (pc_din (hu_of hr) (pv 1) (pe_fld (pv 0) rfl)))
          (pss_one ps_never)
          pss_nil)
        (pss_cons (ps_if (pt_cmpR op_eq (pe_callB call_lenD (by rfl) T.m_len (by decide +kernel) (pa_cons (pe_fld (pv 0) rfl) pa_nil)) (pe_fld (pv 0) rfl) (nomark _))
          (pss_one ps_never)
          pss_nil)
        (pss_cons (ps_set (i := 4) sc_Stations_put.nd rfl (Or.inl rfl) (pe_callB (cr_sortedSet rfl) (by rfl) T.m_sorted (by decide +kernel) (pa_cons (pe_callTy (cr_setL rfl) (by rfl) T.m_set (by decide +kernel) (pa_cons (pe_lc (own := [("place", 5)]) (g := gName 5) (tt := (tTest (tOp (rIn K true) (tVar 5) (tVar 3)))) rfl sc_Stations_put.nd (pi_tup (pv 2)) (blkOk_by (N := ["self", "number", "reads", "ready", "waits", "place"]) (sc := defScope s_Stations_put) (by decide +kernel)) (fun _ _ _ _ _ => pg_name (i := 5) sc_Stations_put.nd rfl (Or.inl rfl)) (fun _ _ _ _ _ => pts_one (pt_cmpR op_notIn_seq (pv 5) (pv 3) (by rfl))) (fun _ _ _ _ _ => (pv 5))) pa_nil)) pa_nil)))
        (pss_one (ps_dput (hu_of hr) (pe_fld (pv 0) rfl) (pv 1) (pe_tup (pa_cons (pe_callTy call_list_of (by rfl) T.m_list (by decide +kernel) (pa_cons (pv 2) pa_nil)) (pa_cons (pv 4) pa_nil))) rfl)))))))), ?_⟩
    clear G_need_number G__need_reads
    clear hr
    simp only [stn, List.cons_append, List.nil_append] at hO k
    have q1 : OSq ((x, .raw (.ins T.C_Stations dx (F_Stations (.int m) (.ref d)))) :: (d, .D (ik (sD rs))) :: (la, .raw (.lst (ready.map V.int))) :: R) P ta (reads.map V.int) := .inr ht
    have l3 : (reads.length : Int) ≤ 3 := by omega
    have l3' : reads.length ≤ 1000 := by omega
    walk_at "go"
    intro H2 P2 sp2 hO
    have q2 : OSq ((x, .raw (.ins T.C_Stations dx (F_Stations (.int m) (.ref d)))) :: (d, .D (ik (sD rs))) :: (la, .raw (.lst (ready.map V.int))) :: R) P2 la (ready.map V.int) := .inl (by walk_at "mem")
    have l4 : (ready.length : Int) ≤ 48 := by omega
    have l4' : ready.length ≤ 1000 := by omega
    walk_at "go"
    intro H3 P3 sp3 hO
    obtain ⟨kvs, hk, o1⟩ := hO.openD (a := d) (by walk_at "mem")
    replace hO := o1 _ (by walk_at "setat")
    clear o1 q1 q2
    have hl := ik_len hk
    rw [sD_len] at hl
    have nd := s_none hni
    have hv := valV_ofN hk nd
    have szk : kvs.length < sizeLine := size_lt (by omega)
    have ht3 : Pf.tup ta (reads.map V.int) ∈ P3 := sp3 _ (sp2 _ ht)
    have hq3 : H3 ta = some (.tup (reads.map V.int)) := hO.ptup (List.mem_cons_of_mem _ ht3)
    walk_at "go"
    refine iteD (fun h => absurd (V.int.inj h) (by rw [hl]; exact hnm)) (fun _ => ?_)
    walk_at "go"
    intro D hD
    refine lc_siftW reads V.int (fun z => decide (z ∉ ready)) (walk_intsT (ns := reads)) hO hD (by omega) (fun H L' P' s t h => SqT.of (h.ptup (t _ (List.mem_cons_of_mem _ ht3)))) (fun i z v H9 H' P' ys Qn Qy hz hv sp hO kn ky => ?_) (fun H5 P5 sp5 hO => ?_)
    · obtain ⟨rfl, hv⟩ := hv
      rw [List.getElem?_map, hz] at hv
      injection hv with hv
      subst hv
      have hin := inV_ints z ready
      have hfl := flat_ints ready
      walk_at "go"
      rw [hin]
      by_cases h : z ∈ ready
      · rw [decide_eq_true h]
        walk_at "go"
        refine kn (decide_eq_false (fun q => q h)) _ _ ?_ hO
        walk_at "ps"
      · rw [decide_eq_false h]
        walk_at "go"
        refine ky (decide_eq_true h) _ _ ?_ hO
        walk_at "ps"
    · obtain ⟨fs, hfs⟩ : ∃ fs, fs = reads.filter fun z => decide (z ∉ ready) := ⟨_, rfl⟩
      have lf : fs.length ≤ 3 := by rw [hfs]; exact Nat.le_trans (List.length_filter_le _ _) hl1
      have lf' : fs.length ≤ 1000 := by omega
      rw [← hfs] at hO
      replace hO := hO.derive (q := .tup ta (reads.map V.int)) (fun M q => q _ (sp5 _ (List.mem_cons_of_mem _ ht3)))
      walk_at "go"
      intro p1 c1 hc1 f1
      walk_at "st"
      have hc64 : c1 < 64 := by omega
      walk_at "go"
      intro ns p2 hpw hmem2 hlen f2
      obtain rfl := uq_of (xs := fs) hpw (fun z => by rw [hmem2, decide_eq_true_iff])
      walk_at "st"
      walk_at "go"
      replace hO := hO.give Pk.one
      replace hO := hO.give Pk.one
      have ew : wt reads ready = uq fs := by rw [wt, ← hfs]
      have e : ik (sD (rs ++ [(n, reads, wt reads ready)])) = putD (ik (sD rs)) (Sum.inl n) (.tuple [lD reads, lD (uq fs)]) := by
        rw [putD_new nd, ew]; simp [ik, sD]
      rw [e] at k
      refine k _ P3 (fun q hq => sp3 q (sp2 q hq)) ?_
      have dk : Dv K P5 (kvs.map Prod.snd) ((ik (sD rs)).map Prod.snd) := Dv.of (sp5 _ List.mem_cons_self)
      replace hO := hO.dv1 (d := .tuple [lD reads, lD (uq fs)]) (Dv1.tup (by walk_at "mem") (Dv.cons (Dv1.lst (by walk_at "mem") (Dv.ints reads)) (Dv.cons (Dv1.lst (by walk_at "mem") (Dv.ints (uq fs))) Dv.nil)))
      replace hO := hO.dv (dk.mono (by walk_at "ps"))
      replace hO : Own K H1 ((x, .raw (.ins T.C_Stations dx (F_Stations (.int m) (.ref d)))) :: (d, .D (putD (ik (sD rs)) (Sum.inl n) (.tuple [lD reads, lD (uq fs)]))) :: (la, .raw (.lst (ready.map V.int))) :: R) _ := Own.sub hO (by
        walk_at "sbL"
        · exact putK_fst hk _ _ _
        · exact Dv.put (Dv.of List.mem_cons_self) hk (Dv1.of (by walk_at "mem"))) Ps.refl
      exact hO.sub (Sb.refl _) (fun q hq => List.mem_cons_of_mem _ (List.mem_cons_of_mem _ (List.mem_cons_of_mem _ (List.mem_cons_of_mem _ (List.mem_cons_of_mem _ (List.mem_cons_of_mem _ (sp5 q (List.mem_cons_of_mem _ hq))))))))
end
end K72

set_option Elab.async false
set_option linter.all false
set_option maxRecDepth 100000
set_option maxHeartbeats 8000000

namespace K72
open PySem PySem.Spec PyProof.Rows L2 Hx 
local macro_rules | `(tactic| walk_at "sm") => `(tactic| repeat' (first | assumption | apply Hx.Same.upd | exact L2.Same.refl _ | apply same_trans'))
local macro_rules | `(tactic| walk_at "hp") => `(tactic| repeat' (first | assumption | exact upd_same | apply old_upd | apply same_at))
local macro_rules | `(tactic| walk_at "rd") => `(tactic| repeat' (first | rfl | apply Exists.intro | apply And.intro | refine iteT ?_ | refine iteF ?_ | exact upd_same | exact SqL.of (by assumption) | exact SqL.of upd_same | exact SqT.of upd_same | exact SqT.of (by assumption) | ((with_reducible show (_ : Int) < _); omega) | ((with_reducible show (_ : Int) ≤ _); omega) | (show (_ : Prop); assumption) | exact Or.inl ⟨_, by assumption, rfl⟩ | exact Or.inl ⟨rfl, _, SqL.of (by assumption)⟩ | exact Or.inl ⟨rfl, _, SqL.of upd_same⟩ | apply old_upd | apply Hx.SqL.new | apply tyl_new | apply Pot.new | exact same_at (by assumption) (by assumption) | exact Or.inl (SqL.of (by assumption)) | exact Or.inl (by assumption) | exact Or.inl (SqL.of upd_same) | exact size_le (Nat.le_of_ble_eq_true rfl) | exact Nat.le_of_ble_eq_true rfl | exact True.intro | exact Or.inl rfl | exact Or.inr rfl | (show (_ : Prop); omega) | (show (_ : Prop); dsimp only; omega) | exact mulw64 (by omega) (by omega) | exact mulw64 (by (try dsimp only); omega) (by (try dsimp only); omega)))
set_option hygiene false in
local macro_rules | `(tactic| walk_at "fl") => `(tactic| simp only [pu_Whims_numbers, pi_Whims_numbers, pu_Whims_position, pi_Whims_position, pu_Stations_many, pi_Stations_many, pu_Stations_rows, pi_Stations_rows] at hO)
local macro_rules | `(tactic| walk_at "mem") => `(tactic| ((repeat (first | exact List.Mem.head _ | apply List.Mem.tail | fail)); done))
local macro_rules | `(tactic| walk_at "setat") => `(tactic| ((repeat (first | (with_reducible exact At.head) | (with_reducible apply At.tail) | (with_reducible apply At.app) | fail)); done))
set_option hygiene false in
local macro_rules | `(tactic| walk_at "dv") => `(tactic| ((repeat' (first | exact Dv.nil | exact Dv.of (by walk_at "mem") | exact Dv.ints _ | exact Dv1.of (by walk_at "mem") | exact Dv1.int _ | exact Dv1.non | exact Dv1.bl _ | exact Dv1.str _ | (with_reducible apply Dv.cons) | refine Dv1.tup (by walk_at "mem") ?_ | refine Dv1.lst (by walk_at "mem") ?_ | (with_reducible apply Dv.app) | fail)); done))
local macro_rules | `(tactic| walk_at "ft") => `(tactic| (first | (with_reducible exact Ft.refl) | ((with_reducible apply Ft.toL); focus walk_at "dv") | ((with_reducible apply Ft.toS); focus assumption) | (with_reducible apply Ft.lst) | (with_reducible apply Ft.Le) | (with_reducible apply Ft.dK) | (with_reducible apply Ft.De) | (with_reducible apply Ft.ins) | (with_reducible apply Ft.toL) | (with_reducible apply Ft.toS) | (with_reducible apply Ft.toD) | fail))
local macro_rules | `(tactic| walk_at "sbL") => `(tactic| repeat' (first | (with_reducible exact Sb.refl _) | exact Sb.nil | (with_reducible apply Sb.cons) | (with_reducible apply Sb.app) | (with_reducible exact Pk.one) | (with_reducible exact Pk.here) | (with_reducible exact Pk.all) | (with_reducible apply Pk.skip1) | (with_reducible apply Pk.skipB) | (with_reducible apply Sb.skip) | (with_reducible apply Sb.skipB) | ((with_reducible show Ft _ _ _ _); walk_at "ft") | ((with_reducible show (_ : List _) = _); (first | rfl | (simp [List.map_set, List.map_append]; done) | fail)) | fail))
local macro_rules | `(tactic| walk_at "sb") => `(tactic| ((walk_at "sbL"); done))
local macro_rules | `(tactic| walk_at "ps") => `(tactic| ((repeat' (first | (with_reducible exact Ps.refl) | exact Ps.nil | (with_reducible apply Ps.cons) | exact List.Mem.head _ | apply List.Mem.tail | (with_reducible apply Ps.skip) | fail)); done))
set_option hygiene false in
local macro_rules | `(tactic| walk_at "at") => `(tactic| first | assumption | exact Own.raw hO (by walk_at "mem") | exact Own.ptup hO (by walk_at "mem") | exact Own.plst hO (by walk_at "mem") | fail)
set_option hygiene false in
local macro_rules | `(tactic| walk_at "st") => `(tactic| (rw [upd_mkO hO]; generalize e : updX _ _ _ = H1; (first | ((apply Own.cset hO e); (focus walk_at "setat"); (try clear hO e); intro hO) | ((apply Own.cnewT hO e); (focus assumption); (try clear hO e); intro hO) | ((apply Own.cnew hO e); (focus assumption); (try clear hO e); intro hO) | fail)))
set_option hygiene false in
local macro_rules | `(tactic| walk_at "mk") => `(tactic| (intro p1 p2 f1 f2 f3; rw [upd_mkO hO]; generalize e : upd (updX _ _ _) _ _ = H1; apply Own.cmake hO f1 f2 f3 e; (try clear hO e); intro hO))
set_option hygiene false in
local macro_rules | `(tactic| walk_at "own") => `(tactic| (first | ((apply Own.sub hO); (focus walk_at "sb"); (focus walk_at "ps")) | ((apply Own.sub hF); (focus walk_at "sb"); (focus walk_at "ps")) | fail))
set_option hygiene false in
local macro_rules | `(tactic| walk_at "fin") => `(tactic| (refine Own.sub hO ?_ (by walk_at "ps"); walk_at "sbL"))
set_option hygiene false in
local macro_rules | `(tactic| walk_at "g1") => `(tactic| (first
 | ((with_reducible show (_ : Option HO) = _); walk_at "at")
 | ((with_reducible show (_ : Int) < _); omega) | ((with_reducible show (_ : Int) ≤ _); omega)
 | ((with_reducible show (_ : Nat) < _); (first | assumption | exact Nat.le_of_ble_eq_true rfl | exact size_lt (Nat.le_of_ble_eq_true rfl) | omega | (simp; done) | (simp; omega) | fail))
 | ((with_reducible show (_ : Nat) ≤ _); (first | assumption | exact Nat.le_of_ble_eq_true rfl | exact size_le (Nat.le_of_ble_eq_true rfl) | omega | (simp; done) | (simp; omega) | fail))
 | ((with_reducible show Own _ _ _ _); (first | walk_at "own" | (walk_at "st"; walk_at "own") | fail))
 | ((with_reducible show SqL _ _ _ _); (first | assumption | exact SqL.of (by walk_at "at") | fail))
 | ((with_reducible show SqT _ _ _ _); (first | assumption | exact hO.psq (by walk_at "mem") | exact SqT.of (by walk_at "at") | fail))
  | ((with_reducible show Cls _ _); exact Txt.cl_Whims T) | ((with_reducible show NoAttr _ _ _); exact Txt.n_Whims_numbers T) | (with_reducible exact gt_Whims_numbers) | ((with_reducible show NoAttr _ _ _); exact Txt.n_Whims_position T) | (with_reducible exact gt_Whims_position) | ((with_reducible show Cls _ _); exact Txt.cl_Stations T) | ((with_reducible show NoAttr _ _ _); exact Txt.n_Stations_many T) | (with_reducible exact gt_Stations_many) | ((with_reducible show NoAttr _ _ _); exact Txt.n_Stations_rows T) | (with_reducible exact gt_Stations_rows)  | ((with_reducible show V.ref _ = V.ref _); (first | rfl | fail))
 | ((with_reducible show DGet _ _ _ _); (first | exact DGet.ki (by walk_at "at") (by assumption) | exact DGet.kiF (by walk_at "at") (by assumption) | fail))
 | ((with_reducible show DPut _ _ _ _ _); exact DPut.ki (by walk_at "at") (by assumption))
 | ((with_reducible show Rd _ _ _); (first | exact Or.inl (by walk_at "at") | exact Or.inr ⟨_, by walk_at "at"⟩ | fail))
 | ((with_reducible show (∃ _ : List (Key × V), _) ∨ _); refine Or.inl ⟨_, by walk_at "at", ?_⟩)
 | ((with_reducible show Dv _ _ _ _); focus walk_at "dv") | ((with_reducible show Dv1 _ _ _ _); focus walk_at "dv")
 | ((with_reducible show IsD _ _); exact Or.inl ⟨_, Or.inl (by walk_at "at")⟩)
 | ((with_reducible show V.int _ = kV _); exact kV_int)
 | ((with_reducible show Option.isSome _ = true); (first | exact isSome_ofV (by assumption) | assumption | fail))
 | ((with_reducible show SqL _ _ _ _ ∨ SqT _ _ _ _); (first | exact Or.inl (by assumption) | exact Or.inr (by assumption) | exact Or.inl (SqL.of (by walk_at "at")) | exact Or.inr (SqT.of (by walk_at "at")) | fail))
 | ((with_reducible show Dp _ _ _ _); (first | assumption | exact hO.dpL (by walk_at "mem") | exact .lst (SqL.of (by walk_at "at")) (hO.all (by walk_at "dv")) | exact hO.one (by walk_at "dv") | fail))
 | ((with_reducible show TruV _ _ _ _); (first | exact Or.inl ⟨_, SqL.of (by walk_at "at"), rfl⟩ | exact Or.inr (Or.inr ⟨_, by walk_at "at", rfl⟩) | exact Or.inr (Or.inl ⟨_, SqT.of (by walk_at "at"), rfl⟩) | fail))
 | ((with_reducible show RgOk _ _); exact RgOk.of_le (by omega) (by omega) (by omega) (by omega))
 | rfl | (with_reducible assumption) | apply And.intro | apply Exists.intro | refine iteT ?_ | refine iteF ?_
 | (walk_at "st"; (try walk_at "fl"))
 | ((with_reducible show ∀ _ : Addr, _ = none → _); (fail_if_success (with_reducible show ∀ _ : Addr, _ = none → ∃ _ : Nat → Nat → Hp → Prop, _)); intro p fp; walk_at "st")
 | (refine Or.inl ⟨SqL.of (by walk_at "at"), ?_⟩) | (refine Or.inr ⟨SqT.of (by walk_at "at"), ?_⟩) | exact Or.inl ⟨_, by walk_at "at", rfl⟩ | exact Or.inl ⟨rfl, _, SqL.of (by walk_at "at")⟩ | exact tyl_of (by walk_at "at") | exact Or.inl (SqL.of (by walk_at "at")) | exact Or.inr (SqT.of (by walk_at "at")) | exact Or.inl (by walk_at "at") | exact size_le (Nat.le_of_ble_eq_true rfl) | exact Nat.le_of_ble_eq_true rfl | exact True.intro | exact Or.inl rfl | exact Or.inr rfl | (show (_ : Prop); assumption) | (show (_ : Prop); omega) | (show (_ : Prop); dsimp only; omega) | exact mulw64 (by omega) (by omega) | exact mulw64 (by (try dsimp only); omega) (by (try dsimp only); omega) | fail))
local macro_rules | `(tactic| walk_at "go") => `(tactic| repeat walk_at "g1")

section
variable {P : Program} {w : World} {K : PySem.W.Frag} {mg : Str → Option Value} {base : Heap}
/-- a list of ints, as data: where it stands -/
theorem opnLI {K : PySem.W.Frag} {H : Hp} {v : V} {xs : List Int} (h : Dp K H v (lD xs)) : ∃ a, v = .ref a ∧ SqL K H a (xs.map V.int) := by
  unfold lD at h
  cases h with
  | lst hq ha =>
    refine ⟨_, rfl, ?_⟩
    rw [dp_flats ha (by rw [List.all_eq_true]; intro d hd; obtain ⟨z, _, rfl⟩ := List.mem_map.mp hd; rfl), List.map_map] at hq
    exact hq
theorem sqLI {K : PySem.W.Frag} {H : Hp} {a : Addr} {xs : List Int} (h : Dp K H (.ref a) (lD xs)) : SqL K H a (xs.map V.int) := by
  obtain ⟨b, e, q⟩ := opnLI h
  cases e
  exact q
def sp_woken (K : PySem.W.Frag) (C : Addr) : Sp := fun vs H Q _ => ∃ (x dx d : Addr) (m z : Int) (rs : List SR) (R : List (Addr × Ob)) (P : List Pf), vs = [.ref x, .int z] ∧ Own K H (stn C x dx d m rs ++ R) P ∧ (0 ≤ z ∧ z < 48) ∧ (skeys rs).Nodup ∧ rs.length ≤ 1000 ∧ (∀ r ∈ rs, r.2.2.length ≤ 100) ∧
  ∀ (d' : Addr) (H' : Hp) (P' : List Pf), Ps P P' → Own K H' (stn C x dx d' m (rs.map fun r => (r.1, r.2.1, r.2.2.filter fun w => decide (w ≠ z))) ++ R) P' → Q .non H'
theorem ok_Stations_woken (T : Txt w K mg) : FnOk P w K mg base CX0 4 T.f_Stations_woken T.fd_Stations_woken ["self", "at"] (sp_woken K T.C_Stations) := by
  have G__is_register_place := ok__is_register_place (P := P) (w := w) (base := base) T
  refine T.F_Stations_woken.ok sc_Stations_woken (fun vs H Q E h => ?_) (fun cdv A outer s H vs Q E hr h => ?_)
  · obtain ⟨x, dx, d, m, z, rs, R, P, rfl, hO, hz, hnd, hl, hw, k⟩ := h; rfl
  · obtain ⟨x, dx, d, m, z, rs, R, P, rfl, hO, hz, hnd, hl, hw, k⟩ := h
    refine ⟨_, (pss_cons (ps_if (pt_not (pt_val (pe_call G__is_register_place (hr.mono (by decide)) rfl T.g__is_register_place T.F__is_register_place.kp T.b__is_register_place .nil pass0 (pa_cons (pv 1) pa_nil))))
          (pss_one ps_never)
          pss_nil)
        (pss_one (ps_fld (pv 0) (pe_lockS (pe_dc (own := [("number", 2), ("reads", 3), ("waits", 4)]) (g := gTup _ 2 (gCons (gName 2) (gCons (gTup _ 2 (gCons (gName 3) (gCons (gName 4) gNil))) gNil))) (tt := tYes) (tk := tVar 2) (tv := tTup (tCons (tVar 3) (tCons (tLc (iList K (tVar 4)) (gName 5) (tTest (tOp rNe (tVar 5) (tVar 1))) (tVar 5) [5]) tNil))) rfl sc_Stations_woken.nd (pi_items (pe_fld (pv 0) rfl)) (blkOk_by (N := ["self", "at", "number", "reads", "waits", "place"]) (sc := defScope s_Stations_woken) (by decide +kernel)) (fun _ _ _ _ _ => pg_pairN (i := 2) (j := 3) (l := 4) rfl sc_Stations_woken.nd rfl rfl rfl (Or.inl rfl) (Or.inl rfl) (Or.inl rfl)) (fun _ _ _ _ _ => pts_nil) (fun _ _ _ _ _ => (pv 2)) (fun _ _ _ _ _ => (pe_tup (pa_cons (pv 3) (pa_cons (pe_lc (own := [("place", 5)]) (g := gName 5)  rfl sc_Stations_woken.nd (pi_list (pv 4)) (blkOk_by (N := ["self", "at", "number", "reads", "waits", "place"]) (sc := reScope (dcScope (stVal ((defBody s_Stations_woken).getD 1 (.Pass ⟨0, 0, 0, 0⟩))))) (by decide +kernel)) (fun _ _ _ _ _ => pg_name (i := 5) sc_Stations_woken.nd rfl (Or.inl rfl)) (fun _ _ _ _ _ => pts_one (pt_cmpR op_ne (pv 5) (pv 1) (nomark _))) (fun _ _ _ _ _ => (pv 5))) pa_nil)))))) rfl))), ?_⟩
    clear G__is_register_place
    clear hr
    simp only [stn, List.cons_append, List.nil_append] at hO k
    obtain ⟨kvs, hk, o1⟩ := hO.openD (a := d) (by walk_at "mem")
    have hO2 := o1 _ (.tail .head)
    clear o1
    have hlk := ik_len hk
    rw [sD_len] at hlk
    walk_at "go"
    refine hO2.lockE (d := d) (u := .dK kvs) (by walk_at "mem") trivial fun od H1 o2 => ?_
    replace hO := o2 _ (.tail .head)
    clear o2 hO2
    walk_at "go"
    intro D hD
    refine dc_siftW rs (fun r => r.1) (fun r => .tuple [lD r.2.1, lD (r.2.2.filter fun w => decide (w ≠ z))]) (fun _ => true) hnd (by rw [← hlk]; exact walk_items) hO hD (by omega) (fun H L' P' s t h => h.raw (s _ (by walk_at "mem"))) (fun i r x0 H9 H' P' kds Qn Qy hz2 hY sp hO kn ky => ?_) (fun H5 P5 sp5 hO => ?_)
    · obtain ⟨t0, kx, vx, rfl, hT, rfl, e1, e2⟩ := hY
      obtain ⟨kv, ekv, rfl⟩ := Option.map_eq_some_iff.mp e1
      obtain rfl : kv.2 = vx := by
        have e2' : kvs[i]?.map Prod.snd = some vx := e2
        rw [ekv] at e2'
        exact Option.some.inj e2'
      obtain ⟨r0, er, ek⟩ := ik_get hk (k := kv.1) (v := kv.2) ekv
      rw [sD, List.getElem?_map, hz2] at er
      injection er with er
      subst er
      rw [ek]
      replace hO := hO.newT (vs := [.int r.1, kv.2]) hT rfl
      obtain ⟨t, a, b, ev, hO⟩ := hO.opn2 (x := lD r.2.1) (y := lD r.2.2) (Dv.get (vs := kvs.map Prod.snd) (ds := (ik (sD rs)).map Prod.snd) (Dv.of (List.mem_cons_of_mem _ (sp _ List.mem_cons_self))) (by rw [List.getElem?_map, ekv]; rfl) (i := i) (by simp [ik, sD, hz2]))
      rw [ev] at hO ⊢
      obtain ⟨lb, rfl, hlb⟩ := opnLI (hO.pd1 (v := b) (d := lD r.2.2) (by walk_at "mem"))
      have hlen2 := hw r (List.mem_of_getElem? hz2)
      walk_at "go"
      intro D2 hD2
      refine lc_siftW r.2.2 V.int (fun w => decide (w ≠ z)) (walk_ints (K := K) (a := lb)) hO hD2 (by omega) (fun H L' P' s t h => sqLI (h.pd1 (t _ (by walk_at "mem")))) (fun i w v H9 H' P' ys Qn Qy2 hz hv sp hO kn ky2 => ?_) (fun H6 P6 sp6 hO => ?_)
      · obtain ⟨rfl, hv⟩ := hv
        rw [List.getElem?_map, hz] at hv
        injection hv with hv
        subst hv
        walk_at "go"
        refine iteN (fun h => ?_) (fun h => ?_)
        · walk_at "go"
          refine ky2 (decide_eq_true (fun e => h (congrArg V.int e))) _ _ ?_ hO
          walk_at "ps"
        · refine kn (decide_eq_false (fun e => e (V.int.inj h))) _ _ ?_ hO
          walk_at "ps"
      · have da : Dv1 K P6 a (lD r.2.1) := Dv1.of (sp6 _ (by walk_at "mem"))
        walk_at "go"
        replace hO := hO.give Pk.one
        refine ky rfl _ _ _ (fun q hq => List.mem_cons_of_mem _ (List.mem_cons_of_mem _ (sp6 q (List.mem_cons_of_mem _ (List.mem_cons_of_mem _ (List.mem_cons_of_mem _ (List.mem_cons_of_mem _ hq))))))) hO (Dv1.tup (by walk_at "mem") (Dv.cons (da.mono (Ps.skip (Ps.skip Ps.refl))) (Dv.cons (Dv1.lst (by walk_at "mem") (Dv.ints _)) Dv.nil)))
    · walk_at "go"
      refine k D _ P5 (fun q hq => sp5 q (List.mem_cons_of_mem _ hq)) ?_
      have e : ik (sD (rs.map fun r => (r.1, r.2.1, r.2.2.filter fun w => decide (w ≠ z)))) = (rs.filter fun _ => true).map fun r => (Sum.inl r.1, .tuple [lD r.2.1, lD (r.2.2.filter fun w => decide (w ≠ z))]) := by
        rw [List.filter_eq_self.mpr (fun _ _ => rfl), ik, sD, List.map_map, List.map_map]; rfl
      rw [e]
      walk_at "fin"
end
end K72

set_option Elab.async false
set_option linter.all false
set_option maxRecDepth 100000
set_option maxHeartbeats 8000000

namespace K72
open PySem PySem.Spec PyProof.Rows L2 Hx 
local macro_rules | `(tactic| walk_at "sm") => `(tactic| repeat' (first | assumption | apply Hx.Same.upd | exact L2.Same.refl _ | apply same_trans'))
local macro_rules | `(tactic| walk_at "hp") => `(tactic| repeat' (first | assumption | exact upd_same | apply old_upd | apply same_at))
local macro_rules | `(tactic| walk_at "rd") => `(tactic| repeat' (first | rfl | apply Exists.intro | apply And.intro | refine iteT ?_ | refine iteF ?_ | exact upd_same | exact SqL.of (by assumption) | exact SqL.of upd_same | exact SqT.of upd_same | exact SqT.of (by assumption) | ((with_reducible show (_ : Int) < _); omega) | ((with_reducible show (_ : Int) ≤ _); omega) | (show (_ : Prop); assumption) | exact Or.inl ⟨_, by assumption, rfl⟩ | exact Or.inl ⟨rfl, _, SqL.of (by assumption)⟩ | exact Or.inl ⟨rfl, _, SqL.of upd_same⟩ | apply old_upd | apply Hx.SqL.new | apply tyl_new | apply Pot.new | exact same_at (by assumption) (by assumption) | exact Or.inl (SqL.of (by assumption)) | exact Or.inl (by assumption) | exact Or.inl (SqL.of upd_same) | exact size_le (Nat.le_of_ble_eq_true rfl) | exact Nat.le_of_ble_eq_true rfl | exact True.intro | exact Or.inl rfl | exact Or.inr rfl | (show (_ : Prop); omega) | (show (_ : Prop); dsimp only; omega) | exact mulw64 (by omega) (by omega) | exact mulw64 (by (try dsimp only); omega) (by (try dsimp only); omega)))
set_option hygiene false in
local macro_rules | `(tactic| walk_at "fl") => `(tactic| simp only [pu_Whims_numbers, pi_Whims_numbers, pu_Whims_position, pi_Whims_position, pu_Stations_many, pi_Stations_many, pu_Stations_rows, pi_Stations_rows] at hO)
local macro_rules | `(tactic| walk_at "mem") => `(tactic| ((repeat (first | exact List.Mem.head _ | apply List.Mem.tail | fail)); done))
local macro_rules | `(tactic| walk_at "setat") => `(tactic| ((repeat (first | (with_reducible exact At.head) | (with_reducible apply At.tail) | (with_reducible apply At.app) | fail)); done))
set_option hygiene false in
local macro_rules | `(tactic| walk_at "dv") => `(tactic| ((repeat' (first | exact Dv.nil | exact Dv.of (by walk_at "mem") | exact Dv.ints _ | exact Dv1.of (by walk_at "mem") | exact Dv1.int _ | exact Dv1.non | exact Dv1.bl _ | exact Dv1.str _ | (with_reducible apply Dv.cons) | refine Dv1.tup (by walk_at "mem") ?_ | refine Dv1.lst (by walk_at "mem") ?_ | (with_reducible apply Dv.app) | fail)); done))
local macro_rules | `(tactic| walk_at "ft") => `(tactic| (first | (with_reducible exact Ft.refl) | ((with_reducible apply Ft.toL); focus walk_at "dv") | ((with_reducible apply Ft.toS); focus assumption) | (with_reducible apply Ft.lst) | (with_reducible apply Ft.Le) | (with_reducible apply Ft.dK) | (with_reducible apply Ft.De) | (with_reducible apply Ft.ins) | (with_reducible apply Ft.toL) | (with_reducible apply Ft.toS) | (with_reducible apply Ft.toD) | fail))
local macro_rules | `(tactic| walk_at "sbL") => `(tactic| repeat' (first | (with_reducible exact Sb.refl _) | exact Sb.nil | (with_reducible apply Sb.cons) | (with_reducible apply Sb.app) | (with_reducible exact Pk.one) | (with_reducible exact Pk.here) | (with_reducible exact Pk.all) | (with_reducible apply Pk.skip1) | (with_reducible apply Pk.skipB) | (with_reducible apply Sb.skip) | (with_reducible apply Sb.skipB) | ((with_reducible show Ft _ _ _ _); walk_at "ft") | ((with_reducible show (_ : List _) = _); (first | rfl | (simp [List.map_set, List.map_append]; done) | fail)) | fail))
local macro_rules | `(tactic| walk_at "sb") => `(tactic| ((walk_at "sbL"); done))
local macro_rules | `(tactic| walk_at "ps") => `(tactic| ((repeat' (first | (with_reducible exact Ps.refl) | exact Ps.nil | (with_reducible apply Ps.cons) | exact List.Mem.head _ | apply List.Mem.tail | (with_reducible apply Ps.skip) | fail)); done))
set_option hygiene false in
local macro_rules | `(tactic| walk_at "at") => `(tactic| first | assumption | exact Own.raw hO (by walk_at "mem") | exact Own.ptup hO (by walk_at "mem") | exact Own.plst hO (by walk_at "mem") | fail)
set_option hygiene false in
local macro_rules | `(tactic| walk_at "st") => `(tactic| (rw [upd_mkO hO]; generalize e : updX _ _ _ = H1; (first | ((apply Own.cset hO e); (focus walk_at "setat"); (try clear hO e); intro hO) | ((apply Own.cnewT hO e); (focus assumption); (try clear hO e); intro hO) | ((apply Own.cnew hO e); (focus assumption); (try clear hO e); intro hO) | fail)))
set_option hygiene false in
local macro_rules | `(tactic| walk_at "mk") => `(tactic| (intro p1 p2 f1 f2 f3; rw [upd_mkO hO]; generalize e : upd (updX _ _ _) _ _ = H1; apply Own.cmake hO f1 f2 f3 e; (try clear hO e); intro hO))
set_option hygiene false in
local macro_rules | `(tactic| walk_at "own") => `(tactic| (first | ((apply Own.sub hO); (focus walk_at "sb"); (focus walk_at "ps")) | ((apply Own.sub hF); (focus walk_at "sb"); (focus walk_at "ps")) | fail))
set_option hygiene false in
local macro_rules | `(tactic| walk_at "fin") => `(tactic| (refine Own.sub hO ?_ (by walk_at "ps"); walk_at "sbL"))
set_option hygiene false in
local macro_rules | `(tactic| walk_at "g1") => `(tactic| (first
 | ((with_reducible show (_ : Option HO) = _); walk_at "at")
 | ((with_reducible show (_ : Int) < _); omega) | ((with_reducible show (_ : Int) ≤ _); omega)
 | ((with_reducible show (_ : Nat) < _); (first | assumption | exact Nat.le_of_ble_eq_true rfl | exact size_lt (Nat.le_of_ble_eq_true rfl) | omega | (simp; done) | (simp; omega) | fail))
 | ((with_reducible show (_ : Nat) ≤ _); (first | assumption | exact Nat.le_of_ble_eq_true rfl | exact size_le (Nat.le_of_ble_eq_true rfl) | omega | (simp; done) | (simp; omega) | fail))
 | ((with_reducible show Own _ _ _ _); (first | walk_at "own" | (walk_at "st"; walk_at "own") | fail))
 | ((with_reducible show SqL _ _ _ _); (first | assumption | exact SqL.of (by walk_at "at") | fail))
 | ((with_reducible show SqT _ _ _ _); (first | assumption | exact hO.psq (by walk_at "mem") | exact SqT.of (by walk_at "at") | fail))
  | ((with_reducible show Cls _ _); exact Txt.cl_Whims T) | ((with_reducible show NoAttr _ _ _); exact Txt.n_Whims_numbers T) | (with_reducible exact gt_Whims_numbers) | ((with_reducible show NoAttr _ _ _); exact Txt.n_Whims_position T) | (with_reducible exact gt_Whims_position) | ((with_reducible show Cls _ _); exact Txt.cl_Stations T) | ((with_reducible show NoAttr _ _ _); exact Txt.n_Stations_many T) | (with_reducible exact gt_Stations_many) | ((with_reducible show NoAttr _ _ _); exact Txt.n_Stations_rows T) | (with_reducible exact gt_Stations_rows)  | ((with_reducible show V.ref _ = V.ref _); (first | rfl | fail))
 | ((with_reducible show DGet _ _ _ _); (first | exact DGet.ki (by walk_at "at") (by assumption) | exact DGet.kiF (by walk_at "at") (by assumption) | fail))
 | ((with_reducible show DPut _ _ _ _ _); exact DPut.ki (by walk_at "at") (by assumption))
 | ((with_reducible show Rd _ _ _); (first | exact Or.inl (by walk_at "at") | exact Or.inr ⟨_, by walk_at "at"⟩ | fail))
 | ((with_reducible show (∃ _ : List (Key × V), _) ∨ _); refine Or.inl ⟨_, by walk_at "at", ?_⟩)
 | ((with_reducible show Dv _ _ _ _); focus walk_at "dv") | ((with_reducible show Dv1 _ _ _ _); focus walk_at "dv")
 | ((with_reducible show IsD _ _); exact Or.inl ⟨_, Or.inl (by walk_at "at")⟩)
 | ((with_reducible show V.int _ = kV _); exact kV_int)
 | ((with_reducible show Option.isSome _ = true); (first | exact isSome_ofV (by assumption) | assumption | fail))
 | ((with_reducible show SqL _ _ _ _ ∨ SqT _ _ _ _); (first | exact Or.inl (by assumption) | exact Or.inr (by assumption) | exact Or.inl (SqL.of (by walk_at "at")) | exact Or.inr (SqT.of (by walk_at "at")) | fail))
 | ((with_reducible show Dp _ _ _ _); (first | assumption | exact hO.dpL (by walk_at "mem") | exact .lst (SqL.of (by walk_at "at")) (hO.all (by walk_at "dv")) | exact hO.one (by walk_at "dv") | fail))
 | ((with_reducible show TruV _ _ _ _); (first | exact Or.inl ⟨_, SqL.of (by walk_at "at"), rfl⟩ | exact Or.inr (Or.inr ⟨_, by walk_at "at", rfl⟩) | exact Or.inr (Or.inl ⟨_, SqT.of (by walk_at "at"), rfl⟩) | fail))
 | ((with_reducible show RgOk _ _); exact RgOk.of_le (by omega) (by omega) (by omega) (by omega))
 | rfl | (with_reducible assumption) | apply And.intro | apply Exists.intro | refine iteT ?_ | refine iteF ?_
 | (walk_at "st"; (try walk_at "fl"))
 | ((with_reducible show ∀ _ : Addr, _ = none → _); (fail_if_success (with_reducible show ∀ _ : Addr, _ = none → ∃ _ : Nat → Nat → Hp → Prop, _)); intro p fp; walk_at "st")
 | (refine Or.inl ⟨SqL.of (by walk_at "at"), ?_⟩) | (refine Or.inr ⟨SqT.of (by walk_at "at"), ?_⟩) | exact Or.inl ⟨_, by walk_at "at", rfl⟩ | exact Or.inl ⟨rfl, _, SqL.of (by walk_at "at")⟩ | exact tyl_of (by walk_at "at") | exact Or.inl (SqL.of (by walk_at "at")) | exact Or.inr (SqT.of (by walk_at "at")) | exact Or.inl (by walk_at "at") | exact size_le (Nat.le_of_ble_eq_true rfl) | exact Nat.le_of_ble_eq_true rfl | exact True.intro | exact Or.inl rfl | exact Or.inr rfl | (show (_ : Prop); assumption) | (show (_ : Prop); omega) | (show (_ : Prop); dsimp only; omega) | exact mulw64 (by omega) (by omega) | exact mulw64 (by (try dsimp only); omega) (by (try dsimp only); omega) | fail))
local macro_rules | `(tactic| walk_at "go") => `(tactic| repeat walk_at "g1")

section
variable {P : Program} {w : World} {K : PySem.W.Frag} {mg : Str → Option Value} {base : Heap}
theorem sfind {rs : List SR} {n : Int} (h : n ∈ skeys rs) : ∃ r, rs.find? (fun r => decide (r.1 = n)) = some r ∧ r ∈ rs ∧ r.1 = n := by
  obtain ⟨u, hu, e⟩ := List.mem_map.mp h
  cases e2 : rs.find? (fun r => decide (r.1 = n)) with
  | none =>
    rw [List.find?_eq_none] at e2
    exact absurd (decide_eq_true e) (e2 u hu)
  | some r => exact ⟨r, rfl, List.mem_of_find?_eq_some e2, of_decide_eq_true (List.find?_some (p := fun r : SR => decide (r.1 = n)) e2)⟩
theorem s_val {rs : List SR} {n : Int} {r : SR} (h : rs.find? (fun r => decide (r.1 = n)) = some r) : valD (ik (sD rs)) (Sum.inl n) = some (.tuple [lD r.2.1, lD r.2.2]) := by
  rw [ik_val, sD, List.find?_map]
  have e : ((fun r : Int × PyData => decide (r.1 = n)) ∘ fun r : SR => (r.1, PyData.tuple [lD r.2.1, lD r.2.2])) = fun r : SR => decide (r.1 = n) := rfl
  rw [e, h]; rfl
def sp_row (K : PySem.W.Frag) (C : Addr) : Sp := fun vs H Q _ => ∃ (x dx d : Addr) (m n : Int) (rs : List SR) (r : SR) (R : List (Addr × Ob)) (P : List Pf), vs = [.ref x, .int n] ∧ Own K H (stn C x dx d m rs ++ R) P ∧ 0 ≤ n ∧ rs.find? (fun r => decide (r.1 = n)) = some r ∧
  ∀ (t a b : Addr), SqT K H t [.ref a, .ref b] → SqL K H a (r.2.1.map V.int) → SqL K H b (r.2.2.map V.int) → Q (.ref t) H
theorem ok_Stationsrow (T : Txt w K mg) : FnOk P w K mg base CX0 4 T.f_Stationsrow T.fd_Stationsrow ["self", "number"] (sp_row K T.C_Stations) := by
  have G_need_number := ok_need_number (P := P) (w := w) (base := base) T
  refine T.F_Stationsrow.ok sc_Stationsrow (fun vs H Q E h => ?_) (fun cdv A outer s H vs Q E hr h => ?_)
  · obtain ⟨x, dx, d, m, n, rs, r, R, P, rfl, hO, hn, hf, k⟩ := h; rfl
  · obtain ⟨x, dx, d, m, n, rs, r, R, P, rfl, hO, hn, hf, k⟩ := h
    refine ⟨_, (pss_cons (ps_expr (pe_call G_need_number (hr.mono (by decide)) rfl T.g_need_number T.F_need_number.kp T.b_need_number .nil pass0 (pa_cons (pv 1) pa_nil)))
        (pss_cons (ps_if (pt_cmp (pc_dnotin (hu_of hr) (pv 1) (pe_fld (pv 0) rfl)))
          (pss_one ps_never)
          pss_nil)
        (pss_one (ps_ret (pe_dget (hu_of hr) (pe_fld (pv 0) rfl) (pv 1) (fun _ _ => rfl)))))), ?_⟩
    clear G_need_number
    clear hr
    simp only [stn, List.cons_append, List.nil_append] at hO
    obtain ⟨kvs, hk, o1⟩ := hO.openD (a := d) (by walk_at "mem")
    replace hO := o1 _ (by walk_at "setat")
    have vd := s_val hf
    obtain ⟨v, hv⟩ := valV_of hk vd
    have dv := Dv.val (K := K) (P := .dp (kvs.map Prod.snd) ((ik (sD rs)).map Prod.snd) :: P) (Dv.of List.mem_cons_self) hk hv vd
    obtain ⟨t, a, b, rfl, hO⟩ := hO.opn2 dv
    obtain ⟨la, rfl, ha⟩ := opnLI (hO.pd1 (v := a) (d := lD r.2.1) (by walk_at "mem"))
    obtain ⟨lb, rfl, hb⟩ := opnLI (hO.pd1 (v := b) (d := lD r.2.2) (by walk_at "mem"))
    have kk := k t la lb (hO.psq (by walk_at "mem")) ha hb
    walk_at "go"
def sp_waits (K : PySem.W.Frag) (C : Addr) : Sp := fun vs H Q _ => ∃ (x dx d : Addr) (m n : Int) (rs : List SR) (r : SR) (R : List (Addr × Ob)) (P : List Pf), vs = [.ref x, .int n] ∧ Own K H (stn C x dx d m rs ++ R) P ∧ 0 ≤ n ∧ rs.find? (fun r => decide (r.1 = n)) = some r ∧
  ∀ (p : Addr) (H' : Hp), Own K H' ((p, .raw (.lst (r.2.2.map V.int))) :: (stn C x dx d m rs ++ R)) P → Q (.ref p) H'
theorem ok_Stations_waits_for (T : Txt w K mg) : FnOk P w K mg base CX0 5 T.f_Stations_waits_for T.fd_Stations_waits_for ["self", "number"] (sp_waits K T.C_Stations) := by
  have G_Stationsrow := ok_Stationsrow (P := P) (w := w) (base := base) T
  refine T.F_Stations_waits_for.ok sc_Stations_waits_for (fun vs H Q E h => ?_) (fun cdv A outer s H vs Q E hr h => ?_)
  · obtain ⟨x, dx, d, m, n, rs, r, R, P, rfl, hO, hn, hf, k⟩ := h; rfl
  · obtain ⟨x, dx, d, m, n, rs, r, R, P, rfl, hO, hn, hf, k⟩ := h
    refine ⟨_, (pss_one (ps_ret (pe_callTy call_list_of (by rfl) T.m_list (by decide +kernel) (pa_cons (pe_ix ix_tup (pe_meth (pv 0) T.cl_Stations T.me_Stationsrow G_Stationsrow (hr.mono (by decide)) T.b_Stationsrow .nil pass0 (pa_cons (pv 1) pa_nil)) pe_int (fun _ _ => rfl)) pa_nil)))), ?_⟩
    clear G_Stationsrow
    clear hr
    walk_at "go"
    intro t a b ht ha hb
    have a1 := at1 (.ref a) (.ref b) []
    walk_at "go"
    exact k _ _ hO
def sp_reads (K : PySem.W.Frag) (C : Addr) : Sp := fun vs H Q _ => ∃ (x dx d : Addr) (m n : Int) (rs : List SR) (r : SR) (R : List (Addr × Ob)) (P : List Pf), vs = [.ref x, .int n] ∧ Own K H (stn C x dx d m rs ++ R) P ∧ 0 ≤ n ∧ rs.find? (fun r => decide (r.1 = n)) = some r ∧
  ∀ (p : Addr) (H' : Hp), Own K H' ((p, .raw (.lst (r.2.1.map V.int))) :: (stn C x dx d m rs ++ R)) P → Q (.ref p) H'
theorem ok_Stations_reads (T : Txt w K mg) : FnOk P w K mg base CX0 5 T.f_Stations_reads T.fd_Stations_reads ["self", "number"] (sp_reads K T.C_Stations) := by
  have G_Stationsrow := ok_Stationsrow (P := P) (w := w) (base := base) T
  refine T.F_Stations_reads.ok sc_Stations_reads (fun vs H Q E h => ?_) (fun cdv A outer s H vs Q E hr h => ?_)
  · obtain ⟨x, dx, d, m, n, rs, r, R, P, rfl, hO, hn, hf, k⟩ := h; rfl
  · obtain ⟨x, dx, d, m, n, rs, r, R, P, rfl, hO, hn, hf, k⟩ := h
    refine ⟨_, (pss_one (ps_ret (pe_callTy call_list_of (by rfl) T.m_list (by decide +kernel) (pa_cons (pe_ix ix_tup (pe_meth (pv 0) T.cl_Stations T.me_Stationsrow G_Stationsrow (hr.mono (by decide)) T.b_Stationsrow .nil pass0 (pa_cons (pv 1) pa_nil)) pe_int (fun _ _ => rfl)) pa_nil)))), ?_⟩
    clear G_Stationsrow
    clear hr
    walk_at "go"
    intro t a b ht ha hb
    have a0 := at0 (.ref a) [.ref b]
    walk_at "go"
    exact k _ _ hO
theorem sD_drop (rs : List SR) (n : Int) : dropD (ik (sD rs)) (Sum.inl n) = ik (sD (rs.filter fun r => decide (r.1 ≠ n))) := by
  rw [ik_drop, sD, sD, List.filter_map]; rfl
def sp_picked (K : PySem.W.Frag) (C : Addr) : Sp := fun vs H Q _ => ∃ (x dx d : Addr) (m n : Int) (rs : List SR) (r : SR) (R : List (Addr × Ob)) (P : List Pf), vs = [.ref x, .int n] ∧ Own K H (stn C x dx d m rs ++ R) P ∧ 0 ≤ n ∧ rs.find? (fun r => decide (r.1 = n)) = some r ∧
  ∀ (p : Addr) (H' : Hp) (P' : List Pf), Ps P P' → Own K H' ((p, .raw (.lst (r.2.1.map V.int))) :: (stn C x dx d m (rs.filter fun r => decide (r.1 ≠ n)) ++ R)) P' → Q (.ref p) H'
theorem ok_Stations_picked (T : Txt w K mg) : FnOk P w K mg base CX0 6 T.f_Stations_picked T.fd_Stations_picked ["self", "number"] (sp_picked K T.C_Stations) := by
  have G_Stations_reads := ok_Stations_reads (P := P) (w := w) (base := base) T
  refine T.F_Stations_picked.ok sc_Stations_picked (fun vs H Q E h => ?_) (fun cdv A outer s H vs Q E hr h => ?_)
  · obtain ⟨x, dx, d, m, n, rs, r, R, P, rfl, hO, hn, hf, k⟩ := h; rfl
  · obtain ⟨x, dx, d, m, n, rs, r, R, P, rfl, hO, hn, hf, k⟩ := h
    refine ⟨_, (pss_cons (ps_set (i := 2) sc_Stations_picked.nd rfl (Or.inl rfl) (pe_meth (pv 0) T.cl_Stations T.me_Stations_reads G_Stations_reads (hr.mono (by decide)) T.b_Stations_reads .nil pass0 (pa_cons (pv 1) pa_nil)))
        (pss_cons (ps_ddel (pe_fld (pv 0) rfl) (pv 1))
        (pss_one (ps_ret (pv 2))))), ?_⟩
    clear G_Stations_reads
    clear hr
    walk_at "go"
    intro p H2 hO
    simp only [stn, List.cons_append, List.nil_append] at hO k
    obtain ⟨kvs, hk, o1⟩ := hO.openD (a := d) (by walk_at "mem")
    replace hO := o1 _ (by walk_at "setat")
    clear o1
    obtain ⟨v, hv⟩ := valV_of hk (s_val hf)
    walk_at "go"
    rw [← sD_drop] at k
    refine k p _ _ (Ps.skip Ps.refl) (Own.sub hO ?_ Ps.refl)
    walk_at "sbL"
    · exact dropK_fst _ hk
    · exact Dv.drop' (Dv.of (by walk_at "mem")) hk
end
end K72

set_option Elab.async false
set_option linter.all false
set_option maxRecDepth 100000
set_option maxHeartbeats 8000000

namespace K72
open PySem PySem.Spec PyProof.Rows L2 Hx 
local macro_rules | `(tactic| walk_at "sm") => `(tactic| repeat' (first | assumption | apply Hx.Same.upd | exact L2.Same.refl _ | apply same_trans'))
local macro_rules | `(tactic| walk_at "hp") => `(tactic| repeat' (first | assumption | exact upd_same | apply old_upd | apply same_at))
local macro_rules | `(tactic| walk_at "rd") => `(tactic| repeat' (first | rfl | apply Exists.intro | apply And.intro | refine iteT ?_ | refine iteF ?_ | exact upd_same | exact SqL.of (by assumption) | exact SqL.of upd_same | exact SqT.of upd_same | exact SqT.of (by assumption) | ((with_reducible show (_ : Int) < _); omega) | ((with_reducible show (_ : Int) ≤ _); omega) | (show (_ : Prop); assumption) | exact Or.inl ⟨_, by assumption, rfl⟩ | exact Or.inl ⟨rfl, _, SqL.of (by assumption)⟩ | exact Or.inl ⟨rfl, _, SqL.of upd_same⟩ | apply old_upd | apply Hx.SqL.new | apply tyl_new | apply Pot.new | exact same_at (by assumption) (by assumption) | exact Or.inl (SqL.of (by assumption)) | exact Or.inl (by assumption) | exact Or.inl (SqL.of upd_same) | exact size_le (Nat.le_of_ble_eq_true rfl) | exact Nat.le_of_ble_eq_true rfl | exact True.intro | exact Or.inl rfl | exact Or.inr rfl | (show (_ : Prop); omega) | (show (_ : Prop); dsimp only; omega) | exact mulw64 (by omega) (by omega) | exact mulw64 (by (try dsimp only); omega) (by (try dsimp only); omega)))
set_option hygiene false in
local macro_rules | `(tactic| walk_at "fl") => `(tactic| simp only [pu_Whims_numbers, pi_Whims_numbers, pu_Whims_position, pi_Whims_position, pu_Stations_many, pi_Stations_many, pu_Stations_rows, pi_Stations_rows] at hO)
local macro_rules | `(tactic| walk_at "mem") => `(tactic| ((repeat (first | exact List.Mem.head _ | apply List.Mem.tail | fail)); done))
local macro_rules | `(tactic| walk_at "setat") => `(tactic| ((repeat (first | (with_reducible exact At.head) | (with_reducible apply At.tail) | (with_reducible apply At.app) | fail)); done))
set_option hygiene false in
local macro_rules | `(tactic| walk_at "dv") => `(tactic| ((repeat' (first | exact Dv.nil | exact Dv.of (by walk_at "mem") | exact Dv.ints _ | exact Dv1.of (by walk_at "mem") | exact Dv1.int _ | exact Dv1.non | exact Dv1.bl _ | exact Dv1.str _ | (with_reducible apply Dv.cons) | refine Dv1.tup (by walk_at "mem") ?_ | refine Dv1.lst (by walk_at "mem") ?_ | (with_reducible apply Dv.app) | fail)); done))
local macro_rules | `(tactic| walk_at "ft") => `(tactic| (first | (with_reducible exact Ft.refl) | ((with_reducible apply Ft.toL); focus walk_at "dv") | ((with_reducible apply Ft.toS); focus assumption) | (with_reducible apply Ft.lst) | (with_reducible apply Ft.Le) | (with_reducible apply Ft.dK) | (with_reducible apply Ft.De) | (with_reducible apply Ft.ins) | (with_reducible apply Ft.toL) | (with_reducible apply Ft.toS) | (with_reducible apply Ft.toD) | fail))
local macro_rules | `(tactic| walk_at "sbL") => `(tactic| repeat' (first | (with_reducible exact Sb.refl _) | exact Sb.nil | (with_reducible apply Sb.cons) | (with_reducible apply Sb.app) | (with_reducible exact Pk.one) | (with_reducible exact Pk.here) | (with_reducible exact Pk.all) | (with_reducible apply Pk.skip1) | (with_reducible apply Pk.skipB) | (with_reducible apply Sb.skip) | (with_reducible apply Sb.skipB) | ((with_reducible show Ft _ _ _ _); walk_at "ft") | ((with_reducible show (_ : List _) = _); (first | rfl | (simp [List.map_set, List.map_append]; done) | fail)) | fail))
local macro_rules | `(tactic| walk_at "sb") => `(tactic| ((walk_at "sbL"); done))
local macro_rules | `(tactic| walk_at "ps") => `(tactic| ((repeat' (first | (with_reducible exact Ps.refl) | exact Ps.nil | (with_reducible apply Ps.cons) | exact List.Mem.head _ | apply List.Mem.tail | (with_reducible apply Ps.skip) | fail)); done))
set_option hygiene false in
local macro_rules | `(tactic| walk_at "at") => `(tactic| first | assumption | exact Own.raw hO (by walk_at "mem") | exact Own.ptup hO (by walk_at "mem") | exact Own.plst hO (by walk_at "mem") | fail)
set_option hygiene false in
local macro_rules | `(tactic| walk_at "st") => `(tactic| (rw [upd_mkO hO]; generalize e : updX _ _ _ = H1; (first | ((apply Own.cset hO e); (focus walk_at "setat"); (try clear hO e); intro hO) | ((apply Own.cnewT hO e); (focus assumption); (try clear hO e); intro hO) | ((apply Own.cnew hO e); (focus assumption); (try clear hO e); intro hO) | fail)))
set_option hygiene false in
local macro_rules | `(tactic| walk_at "mk") => `(tactic| (intro p1 p2 f1 f2 f3; rw [upd_mkO hO]; generalize e : upd (updX _ _ _) _ _ = H1; apply Own.cmake hO f1 f2 f3 e; (try clear hO e); intro hO))
set_option hygiene false in
local macro_rules | `(tactic| walk_at "own") => `(tactic| (first | ((apply Own.sub hO); (focus walk_at "sb"); (focus walk_at "ps")) | ((apply Own.sub hF); (focus walk_at "sb"); (focus walk_at "ps")) | fail))
set_option hygiene false in
local macro_rules | `(tactic| walk_at "fin") => `(tactic| (refine Own.sub hO ?_ (by walk_at "ps"); walk_at "sbL"))
set_option hygiene false in
local macro_rules | `(tactic| walk_at "g1") => `(tactic| (first
 | ((with_reducible show (_ : Option HO) = _); walk_at "at")
 | ((with_reducible show (_ : Int) < _); omega) | ((with_reducible show (_ : Int) ≤ _); omega)
 | ((with_reducible show (_ : Nat) < _); (first | assumption | exact Nat.le_of_ble_eq_true rfl | exact size_lt (Nat.le_of_ble_eq_true rfl) | omega | (simp; done) | (simp; omega) | fail))
 | ((with_reducible show (_ : Nat) ≤ _); (first | assumption | exact Nat.le_of_ble_eq_true rfl | exact size_le (Nat.le_of_ble_eq_true rfl) | omega | (simp; done) | (simp; omega) | fail))
 | ((with_reducible show Own _ _ _ _); (first | walk_at "own" | (walk_at "st"; walk_at "own") | fail))
 | ((with_reducible show SqL _ _ _ _); (first | assumption | exact SqL.of (by walk_at "at") | fail))
 | ((with_reducible show SqT _ _ _ _); (first | assumption | exact hO.psq (by walk_at "mem") | exact SqT.of (by walk_at "at") | fail))
  | ((with_reducible show Cls _ _); exact Txt.cl_Whims T) | ((with_reducible show NoAttr _ _ _); exact Txt.n_Whims_numbers T) | (with_reducible exact gt_Whims_numbers) | ((with_reducible show NoAttr _ _ _); exact Txt.n_Whims_position T) | (with_reducible exact gt_Whims_position) | ((with_reducible show Cls _ _); exact Txt.cl_Stations T) | ((with_reducible show NoAttr _ _ _); exact Txt.n_Stations_many T) | (with_reducible exact gt_Stations_many) | ((with_reducible show NoAttr _ _ _); exact Txt.n_Stations_rows T) | (with_reducible exact gt_Stations_rows)  | ((with_reducible show V.ref _ = V.ref _); (first | rfl | fail))
 | ((with_reducible show DGet _ _ _ _); (first | exact DGet.ki (by walk_at "at") (by assumption) | exact DGet.kiF (by walk_at "at") (by assumption) | fail))
 | ((with_reducible show DPut _ _ _ _ _); exact DPut.ki (by walk_at "at") (by assumption))
 | ((with_reducible show Rd _ _ _); (first | exact Or.inl (by walk_at "at") | exact Or.inr ⟨_, by walk_at "at"⟩ | fail))
 | ((with_reducible show (∃ _ : List (Key × V), _) ∨ _); refine Or.inl ⟨_, by walk_at "at", ?_⟩)
 | ((with_reducible show Dv _ _ _ _); focus walk_at "dv") | ((with_reducible show Dv1 _ _ _ _); focus walk_at "dv")
 | ((with_reducible show IsD _ _); exact Or.inl ⟨_, Or.inl (by walk_at "at")⟩)
 | ((with_reducible show V.int _ = kV _); exact kV_int)
 | ((with_reducible show Option.isSome _ = true); (first | exact isSome_ofV (by assumption) | assumption | fail))
 | ((with_reducible show SqL _ _ _ _ ∨ SqT _ _ _ _); (first | exact Or.inl (by assumption) | exact Or.inr (by assumption) | exact Or.inl (SqL.of (by walk_at "at")) | exact Or.inr (SqT.of (by walk_at "at")) | fail))
 | ((with_reducible show Dp _ _ _ _); (first | assumption | exact hO.dpL (by walk_at "mem") | exact .lst (SqL.of (by walk_at "at")) (hO.all (by walk_at "dv")) | exact hO.one (by walk_at "dv") | fail))
 | ((with_reducible show TruV _ _ _ _); (first | exact Or.inl ⟨_, SqL.of (by walk_at "at"), rfl⟩ | exact Or.inr (Or.inr ⟨_, by walk_at "at", rfl⟩) | exact Or.inr (Or.inl ⟨_, SqT.of (by walk_at "at"), rfl⟩) | fail))
 | ((with_reducible show RgOk _ _); exact RgOk.of_le (by omega) (by omega) (by omega) (by omega))
 | rfl | (with_reducible assumption) | apply And.intro | apply Exists.intro | refine iteT ?_ | refine iteF ?_
 | (walk_at "st"; (try walk_at "fl"))
 | ((with_reducible show ∀ _ : Addr, _ = none → _); (fail_if_success (with_reducible show ∀ _ : Addr, _ = none → ∃ _ : Nat → Nat → Hp → Prop, _)); intro p fp; walk_at "st")
 | (refine Or.inl ⟨SqL.of (by walk_at "at"), ?_⟩) | (refine Or.inr ⟨SqT.of (by walk_at "at"), ?_⟩) | exact Or.inl ⟨_, by walk_at "at", rfl⟩ | exact Or.inl ⟨rfl, _, SqL.of (by walk_at "at")⟩ | exact tyl_of (by walk_at "at") | exact Or.inl (SqL.of (by walk_at "at")) | exact Or.inr (SqT.of (by walk_at "at")) | exact Or.inl (by walk_at "at") | exact size_le (Nat.le_of_ble_eq_true rfl) | exact Nat.le_of_ble_eq_true rfl | exact True.intro | exact Or.inl rfl | exact Or.inr rfl | (show (_ : Prop); assumption) | (show (_ : Prop); omega) | (show (_ : Prop); dsimp only; omega) | exact mulw64 (by omega) (by omega) | exact mulw64 (by (try dsimp only); omega) (by (try dsimp only); omega) | fail))
local macro_rules | `(tactic| walk_at "go") => `(tactic| repeat walk_at "g1")

section
variable {P : Program} {w : World} {K : PySem.W.Frag} {mg : Str → Option Value} {base : Heap}
def sp_nums (K : PySem.W.Frag) (C : Addr) : Sp := fun vs H Q _ => ∃ (x dx d : Addr) (m : Int) (us : List SR) (R : List (Addr × Ob)) (P : List Pf), vs = [.ref x] ∧ Own K H (stn C x dx d m us ++ R) P ∧
  ∀ (p : Addr) (H' : Hp), Own K H' ((p, .raw (.lst ((srt (skeys us)).map V.int))) :: (stn C x dx d m us ++ R)) P → Q (.ref p) H'
theorem ok_Stations_numbers (T : Txt w K mg) : FnOk P w K mg base CX0 1 T.f_Stations_numbers T.fd_Stations_numbers ["self"] (sp_nums K T.C_Stations) := by
  refine T.F_Stations_numbers.ok sc_Stations_numbers (fun vs H Q E h => ?_) (fun cdv A outer s H vs Q E hr h => ?_)
  · obtain ⟨x, dx, d, m, us, R, P, rfl, hO, k⟩ := h; rfl
  · obtain ⟨x, dx, d, m, us, R, P, rfl, hO, k⟩ := h
    refine ⟨_, (pss_one (ps_ret (pe_callB cr_sortedI (by rfl) T.m_sorted (by decide +kernel) (pa_cons (pe_callTy (call_list_dK rfl) (by rfl) T.m_list (by decide +kernel) (pa_cons (pe_fld (pv 0) rfl) pa_nil)) pa_nil)))), ?_⟩
    clear hr
    simp only [stn, List.cons_append, List.nil_append] at hO k
    obtain ⟨kvs, hk, o1⟩ := hO.openD (a := d) (by walk_at "mem")
    replace hO := o1 _ (by walk_at "setat")
    have ek := ik_keys hk
    rw [sD_keys] at ek
    have el : kvs.map (fun kv => kV kv.1) = (skeys us).map V.int := by
      have := congrArg (List.map kV) ek
      rw [List.map_map, List.map_map] at this
      exact this
    walk_at "go"
    rw [el] at hO
    walk_at "go"
    intro ys q hp hs fq
    obtain rfl := srt_of hp hs
    walk_at "go"
    refine k q _ (Own.sub hO ?_ (Ps.skip Ps.refl))
    walk_at "sbL"
    · exact hk
    · exact Dv.of (by walk_at "mem")
/-- what n waits for -/
def wf (rs : List SR) (n : Int) : List Int := match rs.find? (fun r => decide (r.1 = n)) with
  | some r => r.2.2
  | none => []
/-- those that wait for nothing -/
def rdy (rs : List SR) : List Int := (srt (skeys rs)).filter fun n => decide (wf rs n = [])
def sp_ready (K : PySem.W.Frag) (C : Addr) : Sp := fun vs H Q _ => ∃ (x dx d : Addr) (m : Int) (rs : List SR) (R : List (Addr × Ob)) (P : List Pf), vs = [.ref x] ∧ Own K H (stn C x dx d m rs ++ R) P ∧ rs.length ≤ 1000 ∧
  ∀ (p : Addr) (H' : Hp) (P' : List Pf), Ps P P' → Own K H' ((p, .raw (.lst ((rdy rs).map V.int))) :: (stn C x dx d m rs ++ R)) P' → Q (.ref p) H'
theorem ok_Stations_ready (T : Txt w K mg) : FnOk P w K mg base CX0 2 T.f_Stations_ready T.fd_Stations_ready ["self"] (sp_ready K T.C_Stations) := by
  have G_Stations_numbers := ok_Stations_numbers (P := P) (w := w) (base := base) T
  refine T.F_Stations_ready.ok sc_Stations_ready (fun vs H Q E h => ?_) (fun cdv A outer s H vs Q E hr h => ?_)
  · obtain ⟨x, dx, d, m, rs, R, P, rfl, hO, hz, k⟩ := h; rfl
  · obtain ⟨x, dx, d, m, rs, R, P, rfl, hO, hz, k⟩ := h
    refine ⟨_, (pss_one (ps_ret (pe_lc (own := [("number", 1)]) (g := gName 1) (tt := tNot (fun σ H Q => (tOp (rIxT K) (tDGet (tFld K (tVar 0) "_rows") (tVar 1)) (tC (.int 1))) σ H fun x H2 => ∃ k, TruV K x H2 k ∧ Q k H2)) rfl sc_Stations_ready.nd (pi_list (pe_meth0 (pv 0) T.cl_Stations T.me_Stations_numbers G_Stations_numbers (hr.mono (by decide)) T.b_Stations_numbers .nil pass0)) (blkOk_by (N := ["self", "number"]) (sc := defScope s_Stations_ready) (by decide +kernel)) (fun _ _ _ _ _ => pg_name (i := 1) sc_Stations_ready.nd rfl (Or.inl rfl)) (fun _ _ _ _ _ => pts_one (pt_not (pt_truth (pe_ix ix_tup (pe_dget (hu_of hr) (pe_fld (pv 0) rfl) (pv 1) (fun _ _ => rfl)) pe_int (fun _ _ => rfl)) (by intro _; rfl)))) (fun _ _ _ _ _ => (pv 1))))), ?_⟩
    clear G_Stations_numbers
    clear hr
    walk_at "go"
    intro q H1 hO
    simp only [stn, List.cons_append, List.nil_append] at hO k
    walk_at "go"
    intro D hD
    obtain ⟨kvs, hk, o1⟩ := hO.openD (a := d) (by walk_at "mem")
    replace hO := o1 _ (by walk_at "setat")
    clear o1
    refine lc_siftW (srt (skeys rs)) V.int (fun n => decide (wf rs n = [])) (walk_ints (K := K) (a := q)) hO hD (by rw [srt_len]; simp [skeys]; omega) (fun H L' P' s t h => SqL.of (h.raw (s _ (by walk_at "mem")))) (fun i n v H9 H' P' ys Qn Qy hn hv sp hO kn ky => ?_) (fun H5 P5 sp5 hO => ?_)
    · obtain ⟨rfl, hv⟩ := hv
      rw [List.getElem?_map, hn] at hv
      injection hv with hv
      subst hv
      have hm : n ∈ skeys rs := srt_mem.mp (List.mem_of_getElem? hn)
      obtain ⟨r, hf, hr, e⟩ := sfind hm
      have vd := s_val hf
      obtain ⟨v, hv⟩ := valV_of hk vd
      have dv := Dv.val (K := K) (P := P') (Dv.of (sp _ List.mem_cons_self)) hk hv vd
      have el : wf rs n = r.2.2 := by unfold wf; rw [hf]
      obtain ⟨t, a, b, rfl, hO⟩ := hO.opn2 dv
      obtain ⟨lb, rfl, hb⟩ := opnLI (hO.pd1 (v := b) (d := lD r.2.2) (by walk_at "mem"))
      have a1 := at1 a (.ref lb) []
      walk_at "go"
      rw [el] at kn ky
      cases hw : r.2.2 with
      | nil =>
        rw [hw] at ky
        refine iteT ?_
        walk_at "go"
        refine ky (decide_eq_true rfl) _ _ ?_ hO
        walk_at "ps"
      | cons c l =>
        rw [hw] at kn
        refine iteF ?_
        refine kn (decide_eq_false (fun e => nomatch e)) _ _ ?_ hO
        walk_at "ps"
    · walk_at "go"
      refine k D H5 P5 (fun q hq => sp5 q (List.mem_cons_of_mem _ hq)) (Own.sub (hO.dv (Dv.of (sp5 _ List.mem_cons_self))) ?_ (Ps.skip Ps.refl))
      walk_at "sbL"
      · exact hk
      · exact Dv.of (by walk_at "mem")
def chv (rd : List Int) (ov : V) (ws : List Int) (t : Nat) (tw : Int) : V × Nat := match rd with
  | [] => (.non, 0)
  | r :: l => if tw = 0 then (.int r, 0) else if inV ov ((r :: l).map V.int) = true then (ov, 0) else (.int ((r :: l).getD (wdue ws t ((l.length : Int) + 1)).toNat 0), 1)
def sp_chosen (K : PySem.W.Frag) (C CW : Addr) : Sp := fun vs H Q _ => ∃ (x dx d wx dw n : Addr) (m tw : Int) (ov : V) (rs : List SR) (ws : List Int) (t : Nat) (R : List (Addr × Ob)) (P : List Pf), vs = [.ref x, ov, .ref wx, .int tw] ∧ Own K H (stn C x dx d m rs ++ (wm CW wx dw n ws t ++ R)) P ∧ rs.length ≤ 1000 ∧
  (ov = .non ∨ ∃ o : Int, ov = .int o ∧ 0 ≤ o) ∧ (0 ≤ tw ∧ tw ≤ 1) ∧
  ∀ (H' : Hp) (P' : List Pf), Ps P P' → Own K H' (stn C x dx d m rs ++ (wm CW wx dw n ws ((t + (chv (rdy rs) ov ws t tw).2 : Nat) : Int) ++ R)) P' → Q (chv (rdy rs) ov ws t tw).1 H'
theorem ok_Stations_chosen (T : Txt w K mg) : FnOk P w K mg base CX0 4 T.f_Stations_chosen T.fd_Stations_chosen ["self", "oldest", "whims", "twist"] (sp_chosen K T.C_Stations T.C_Whims) := by
  have G_need_number := ok_need_number (P := P) (w := w) (base := base) T
  have G_need_whims := ok_need_whims (P := P) (w := w) (base := base) T
  have G_is_between := ok_is_between (P := P) (w := w) (base := base) T
  have G_Stations_ready := ok_Stations_ready (P := P) (w := w) (base := base) T
  have G_Whims_take := ok_Whims_take (P := P) (w := w) (base := base) T
  refine T.F_Stations_chosen.ok sc_Stations_chosen (fun vs H Q E h => ?_) (fun cdv A outer s H vs Q E hr h => ?_)
  · obtain ⟨x, dx, d, wx, dw, n, m, tw, ov, rs, ws, t, R, P, rfl, hO, hz, hov, htw, k⟩ := h; rfl
  · obtain ⟨x, dx, d, wx, dw, n, m, tw, ov, rs, ws, t, R, P, rfl, hO, hz, hov, htw, k⟩ := h
    refine ⟨_, (pss_cons (ps_if (pt_cmpR op_notN (pv 1) pe_non (nomark _))
          (pss_one (ps_expr (pe_call G_need_number (hr.mono (by decide)) rfl T.g_need_number T.F_need_number.kp T.b_need_number .nil pass0 (pa_cons (pv 1) pa_nil))))
          pss_nil)
        (pss_cons (ps_expr (pe_call G_need_whims (hr.mono (by decide)) rfl T.g_need_whims T.F_need_whims.kp T.b_need_whims .nil pass0 (pa_cons (pv 2) pa_nil)))
        (pss_cons (ps_if (pt_not (pt_val (pe_call G_is_between (hr.mono (by decide)) rfl T.g_is_between T.F_is_between.kp T.b_is_between .nil pass0 (pa_cons (pv 3) (pa_cons pe_int (pa_cons pe_int pa_nil))))))
          (pss_one ps_never)
          pss_nil)
        (pss_cons (ps_set (i := 4) sc_Stations_chosen.nd rfl (Or.inl rfl) (pe_meth0 (pv 0) T.cl_Stations T.me_Stations_ready G_Stations_ready (hr.mono (by decide)) T.b_Stations_ready .nil pass0))
        (pss_cons (ps_if (pt_not (pt_truth (pv 4) (by intro _; rfl)))
          (pss_one (ps_ret pe_non))
          pss_nil)
        (pss_cons (ps_if (pt_cmpR op_eq (pv 3) pe_int (nomark _))
          (pss_one (ps_ret (pe_ix ix_list (pv 4) pe_int (fun _ _ => rfl))))
          pss_nil)
        (pss_cons (ps_if (pt_cmpR op_in_seq (pv 1) (pv 4) (by rfl))
          (pss_one (ps_ret (pv 1)))
          pss_nil)
        (pss_one (ps_ret (pe_ix ix_list (pv 4) (pe_meth (pv 2) T.cl_Whims T.me_Whims_take G_Whims_take (hr.mono (by decide)) T.b_Whims_take .nil pass0 (pa_cons (pe_callB call_len_list (by rfl) T.m_len (by decide +kernel) (pa_cons (pv 4) pa_nil)) pa_nil)) (fun _ _ => rfl))))))))))), ?_⟩
    clear G_need_number G_need_whims G_is_between G_Stations_ready G_Whims_take
    clear hr
    rcases hov with rfl | ⟨o, rfl, ho⟩
    · walk_at "go"
      refine iteN (fun h => absurd htw h) (fun _ => ?_)
      walk_at "go"
      intro p H2 P2 sp2 hO
      obtain ⟨g, hg⟩ : ∃ g, g = rdy rs := ⟨_, rfl⟩
      rw [← hg] at hO k
      have hgl : g.length ≤ 1000 := by rw [hg, rdy]; exact Nat.le_trans (List.length_filter_le _ _) (by rw [srt_len]; simp [skeys]; omega)
      have hfl := flat_ints g
      cases g with
      | nil =>
        simp only [chv, Nat.add_zero] at k
        walk_at "go"
        refine k _ P2 sp2 ?_
        walk_at "fin"
      | cons r l =>
        have ha : atI (List.map V.int (r :: l)) 0 = some (.int r) := at0 _ _
        walk_at "go"
        refine iteD (fun h => ?_) (fun h => ?_)
        · have h0 : tw = 0 := V.int.inj h
          have ec : chv (r :: l) V.non ws t tw = (.int r, 0) := by simp only [chv]; rw [if_pos h0]
          rw [ec] at k
          simp only [Nat.add_zero] at k
          walk_at "go"
          refine k _ P2 sp2 ?_
          walk_at "fin"
        · have h0 : ¬ tw = 0 := fun e => h (congrArg V.int e)
          walk_at "go"
          cases hin : inV V.non (List.map V.int (r :: l)) with
          | true =>
            have ec : chv (r :: l) V.non ws t tw = (V.non, 0) := by simp only [chv]; rw [if_neg h0, if_pos hin]
            rw [ec] at k
            simp only [Nat.add_zero] at k
            walk_at "go"
            refine k _ P2 sp2 ?_
            walk_at "fin"
          | false =>
            have ec : chv (r :: l) V.non ws t tw = (.int ((r :: l).getD (wdue ws t ((l.length : Int) + 1)).toNat 0), 1) := by simp only [chv]; rw [if_neg h0, if_neg (by rw [hin]; exact fun z => nomatch z)]
            rw [ec] at k
            have hpos : (0 : Int) < ((List.map V.int (r :: l)).length : Int) := by simp
            walk_at "go"
            intro H3 hO
            have elen : ((List.map V.int (r :: l)).length : Int) = (l.length : Int) + 1 := by simp
            rw [elen]
            obtain ⟨wd, hwd⟩ : ∃ wd, wd = wdue ws t ((l.length : Int) + 1) := ⟨_, rfl⟩
            have hwb : 0 ≤ wd ∧ wd < (l.length : Int) + 1 := by rw [hwd]; exact ⟨Int.emod_nonneg _ (by omega), Int.emod_lt_of_pos _ (by omega)⟩
            rw [← hwd] at k ⊢
            have hat : atI (List.map V.int (r :: l)) wd = some (.int ((r :: l).getD wd.toNat 0)) := by
              have h2 : wd.toNat < (r :: l).length := by simp; omega
              have h3 := atI_nat (xs := List.map V.int (r :: l)) (j := wd.toNat) (v := .int ((r :: l).getD wd.toNat 0)) (by rw [List.getElem?_map, List.getElem?_eq_getElem h2, List.getD_eq_getElem?_getD, List.getElem?_eq_getElem h2]; rfl)
              rwa [Int.toNat_of_nonneg hwb.1] at h3
            walk_at "go"
            refine k _ P2 sp2 ?_
            walk_at "fin"
    · walk_at "go"
      refine iteN (fun h => absurd htw h) (fun _ => ?_)
      walk_at "go"
      intro p H2 P2 sp2 hO
      obtain ⟨g, hg⟩ : ∃ g, g = rdy rs := ⟨_, rfl⟩
      rw [← hg] at hO k
      have hgl : g.length ≤ 1000 := by rw [hg, rdy]; exact Nat.le_trans (List.length_filter_le _ _) (by rw [srt_len]; simp [skeys]; omega)
      have hfl := flat_ints g
      cases g with
      | nil =>
        simp only [chv, Nat.add_zero] at k
        walk_at "go"
        refine k _ P2 sp2 ?_
        walk_at "fin"
      | cons r l =>
        have ha : atI (List.map V.int (r :: l)) 0 = some (.int r) := at0 _ _
        walk_at "go"
        refine iteD (fun h => ?_) (fun h => ?_)
        · have h0 : tw = 0 := V.int.inj h
          have ec : chv (r :: l) (V.int o) ws t tw = (.int r, 0) := by simp only [chv]; rw [if_pos h0]
          rw [ec] at k
          simp only [Nat.add_zero] at k
          walk_at "go"
          refine k _ P2 sp2 ?_
          walk_at "fin"
        · have h0 : ¬ tw = 0 := fun e => h (congrArg V.int e)
          walk_at "go"
          cases hin : inV (V.int o) (List.map V.int (r :: l)) with
          | true =>
            have ec : chv (r :: l) (V.int o) ws t tw = ((V.int o), 0) := by simp only [chv]; rw [if_neg h0, if_pos hin]
            rw [ec] at k
            simp only [Nat.add_zero] at k
            walk_at "go"
            refine k _ P2 sp2 ?_
            walk_at "fin"
          | false =>
            have ec : chv (r :: l) (V.int o) ws t tw = (.int ((r :: l).getD (wdue ws t ((l.length : Int) + 1)).toNat 0), 1) := by simp only [chv]; rw [if_neg h0, if_neg (by rw [hin]; exact fun z => nomatch z)]
            rw [ec] at k
            have hpos : (0 : Int) < ((List.map V.int (r :: l)).length : Int) := by simp
            walk_at "go"
            intro H3 hO
            have elen : ((List.map V.int (r :: l)).length : Int) = (l.length : Int) + 1 := by simp
            rw [elen]
            obtain ⟨wd, hwd⟩ : ∃ wd, wd = wdue ws t ((l.length : Int) + 1) := ⟨_, rfl⟩
            have hwb : 0 ≤ wd ∧ wd < (l.length : Int) + 1 := by rw [hwd]; exact ⟨Int.emod_nonneg _ (by omega), Int.emod_lt_of_pos _ (by omega)⟩
            rw [← hwd] at k ⊢
            have hat : atI (List.map V.int (r :: l)) wd = some (.int ((r :: l).getD wd.toNat 0)) := by
              have h2 : wd.toNat < (r :: l).length := by simp; omega
              have h3 := atI_nat (xs := List.map V.int (r :: l)) (j := wd.toNat) (v := .int ((r :: l).getD wd.toNat 0)) (by rw [List.getElem?_map, List.getElem?_eq_getElem h2, List.getD_eq_getElem?_getD, List.getElem?_eq_getElem h2]; rfl)
              rwa [Int.toNat_of_nonneg hwb.1] at h3
            walk_at "go"
            refine k _ P2 sp2 ?_
            walk_at "fin"
end
end K72

set_option Elab.async false
set_option linter.all false
set_option maxRecDepth 100000
set_option maxHeartbeats 8000000

namespace K72
open PySem PySem.Spec PyProof.Rows L2 Hx 
local macro_rules | `(tactic| walk_at "sm") => `(tactic| repeat' (first | assumption | apply Hx.Same.upd | exact L2.Same.refl _ | apply same_trans'))
local macro_rules | `(tactic| walk_at "hp") => `(tactic| repeat' (first | assumption | exact upd_same | apply old_upd | apply same_at))
local macro_rules | `(tactic| walk_at "rd") => `(tactic| repeat' (first | rfl | apply Exists.intro | apply And.intro | refine iteT ?_ | refine iteF ?_ | exact upd_same | exact SqL.of (by assumption) | exact SqL.of upd_same | exact SqT.of upd_same | exact SqT.of (by assumption) | ((with_reducible show (_ : Int) < _); omega) | ((with_reducible show (_ : Int) ≤ _); omega) | (show (_ : Prop); assumption) | exact Or.inl ⟨_, by assumption, rfl⟩ | exact Or.inl ⟨rfl, _, SqL.of (by assumption)⟩ | exact Or.inl ⟨rfl, _, SqL.of upd_same⟩ | apply old_upd | apply Hx.SqL.new | apply tyl_new | apply Pot.new | exact same_at (by assumption) (by assumption) | exact Or.inl (SqL.of (by assumption)) | exact Or.inl (by assumption) | exact Or.inl (SqL.of upd_same) | exact size_le (Nat.le_of_ble_eq_true rfl) | exact Nat.le_of_ble_eq_true rfl | exact True.intro | exact Or.inl rfl | exact Or.inr rfl | (show (_ : Prop); omega) | (show (_ : Prop); dsimp only; omega) | exact mulw64 (by omega) (by omega) | exact mulw64 (by (try dsimp only); omega) (by (try dsimp only); omega)))
set_option hygiene false in
local macro_rules | `(tactic| walk_at "fl") => `(tactic| simp only [pu_Whims_numbers, pi_Whims_numbers, pu_Whims_position, pi_Whims_position, pu_Stations_many, pi_Stations_many, pu_Stations_rows, pi_Stations_rows] at hO)
local macro_rules | `(tactic| walk_at "mem") => `(tactic| ((repeat (first | exact List.Mem.head _ | apply List.Mem.tail | fail)); done))
local macro_rules | `(tactic| walk_at "setat") => `(tactic| ((repeat (first | (with_reducible exact At.head) | (with_reducible apply At.tail) | (with_reducible apply At.app) | fail)); done))
set_option hygiene false in
local macro_rules | `(tactic| walk_at "dv") => `(tactic| ((repeat' (first | exact Dv.nil | exact Dv.of (by walk_at "mem") | exact Dv.ints _ | exact Dv1.of (by walk_at "mem") | exact Dv1.int _ | exact Dv1.non | exact Dv1.bl _ | exact Dv1.str _ | (with_reducible apply Dv.cons) | refine Dv1.tup (by walk_at "mem") ?_ | refine Dv1.lst (by walk_at "mem") ?_ | (with_reducible apply Dv.app) | fail)); done))
local macro_rules | `(tactic| walk_at "ft") => `(tactic| (first | (with_reducible exact Ft.refl) | ((with_reducible apply Ft.toL); focus walk_at "dv") | ((with_reducible apply Ft.toS); focus assumption) | (with_reducible apply Ft.lst) | (with_reducible apply Ft.Le) | (with_reducible apply Ft.dK) | (with_reducible apply Ft.De) | (with_reducible apply Ft.ins) | (with_reducible apply Ft.toL) | (with_reducible apply Ft.toS) | (with_reducible apply Ft.toD) | fail))
local macro_rules | `(tactic| walk_at "sbL") => `(tactic| repeat' (first | (with_reducible exact Sb.refl _) | exact Sb.nil | (with_reducible apply Sb.cons) | (with_reducible apply Sb.app) | (with_reducible exact Pk.one) | (with_reducible exact Pk.here) | (with_reducible exact Pk.all) | (with_reducible apply Pk.skip1) | (with_reducible apply Pk.skipB) | (with_reducible apply Sb.skip) | (with_reducible apply Sb.skipB) | ((with_reducible show Ft _ _ _ _); walk_at "ft") | ((with_reducible show (_ : List _) = _); (first | rfl | (simp [List.map_set, List.map_append]; done) | fail)) | fail))
local macro_rules | `(tactic| walk_at "sb") => `(tactic| ((walk_at "sbL"); done))
local macro_rules | `(tactic| walk_at "ps") => `(tactic| ((repeat' (first | (with_reducible exact Ps.refl) | exact Ps.nil | (with_reducible apply Ps.cons) | exact List.Mem.head _ | apply List.Mem.tail | (with_reducible apply Ps.skip) | fail)); done))
set_option hygiene false in
local macro_rules | `(tactic| walk_at "at") => `(tactic| first | assumption | exact Own.raw hO (by walk_at "mem") | exact Own.ptup hO (by walk_at "mem") | exact Own.plst hO (by walk_at "mem") | fail)
set_option hygiene false in
local macro_rules | `(tactic| walk_at "st") => `(tactic| (rw [upd_mkO hO]; generalize e : updX _ _ _ = H1; (first | ((apply Own.cset hO e); (focus walk_at "setat"); (try clear hO e); intro hO) | ((apply Own.cnewT hO e); (focus assumption); (try clear hO e); intro hO) | ((apply Own.cnew hO e); (focus assumption); (try clear hO e); intro hO) | fail)))
set_option hygiene false in
local macro_rules | `(tactic| walk_at "mk") => `(tactic| (intro p1 p2 f1 f2 f3; rw [upd_mkO hO]; generalize e : upd (updX _ _ _) _ _ = H1; apply Own.cmake hO f1 f2 f3 e; (try clear hO e); intro hO))
set_option hygiene false in
local macro_rules | `(tactic| walk_at "own") => `(tactic| (first | ((apply Own.sub hO); (focus walk_at "sb"); (focus walk_at "ps")) | ((apply Own.sub hF); (focus walk_at "sb"); (focus walk_at "ps")) | fail))
set_option hygiene false in
local macro_rules | `(tactic| walk_at "fin") => `(tactic| (refine Own.sub hO ?_ (by walk_at "ps"); walk_at "sbL"))
set_option hygiene false in
local macro_rules | `(tactic| walk_at "g1") => `(tactic| (first
 | ((with_reducible show (_ : Option HO) = _); walk_at "at")
 | ((with_reducible show (_ : Int) < _); omega) | ((with_reducible show (_ : Int) ≤ _); omega)
 | ((with_reducible show (_ : Nat) < _); (first | assumption | exact Nat.le_of_ble_eq_true rfl | exact size_lt (Nat.le_of_ble_eq_true rfl) | omega | (simp; done) | (simp; omega) | fail))
 | ((with_reducible show (_ : Nat) ≤ _); (first | assumption | exact Nat.le_of_ble_eq_true rfl | exact size_le (Nat.le_of_ble_eq_true rfl) | omega | (simp; done) | (simp; omega) | fail))
 | ((with_reducible show Own _ _ _ _); (first | walk_at "own" | (walk_at "st"; walk_at "own") | fail))
 | ((with_reducible show SqL _ _ _ _); (first | assumption | exact SqL.of (by walk_at "at") | fail))
 | ((with_reducible show SqT _ _ _ _); (first | assumption | exact hO.psq (by walk_at "mem") | exact SqT.of (by walk_at "at") | fail))
  | ((with_reducible show Cls _ _); exact Txt.cl_Whims T) | ((with_reducible show NoAttr _ _ _); exact Txt.n_Whims_numbers T) | (with_reducible exact gt_Whims_numbers) | ((with_reducible show NoAttr _ _ _); exact Txt.n_Whims_position T) | (with_reducible exact gt_Whims_position) | ((with_reducible show Cls _ _); exact Txt.cl_Stations T) | ((with_reducible show NoAttr _ _ _); exact Txt.n_Stations_many T) | (with_reducible exact gt_Stations_many) | ((with_reducible show NoAttr _ _ _); exact Txt.n_Stations_rows T) | (with_reducible exact gt_Stations_rows)  | ((with_reducible show V.ref _ = V.ref _); (first | rfl | fail))
 | ((with_reducible show DGet _ _ _ _); (first | exact DGet.ki (by walk_at "at") (by assumption) | exact DGet.kiF (by walk_at "at") (by assumption) | fail))
 | ((with_reducible show DPut _ _ _ _ _); exact DPut.ki (by walk_at "at") (by assumption))
 | ((with_reducible show Rd _ _ _); (first | exact Or.inl (by walk_at "at") | exact Or.inr ⟨_, by walk_at "at"⟩ | fail))
 | ((with_reducible show (∃ _ : List (Key × V), _) ∨ _); refine Or.inl ⟨_, by walk_at "at", ?_⟩)
 | ((with_reducible show Dv _ _ _ _); focus walk_at "dv") | ((with_reducible show Dv1 _ _ _ _); focus walk_at "dv")
 | ((with_reducible show IsD _ _); exact Or.inl ⟨_, Or.inl (by walk_at "at")⟩)
 | ((with_reducible show V.int _ = kV _); exact kV_int)
 | ((with_reducible show Option.isSome _ = true); (first | exact isSome_ofV (by assumption) | assumption | fail))
 | ((with_reducible show SqL _ _ _ _ ∨ SqT _ _ _ _); (first | exact Or.inl (by assumption) | exact Or.inr (by assumption) | exact Or.inl (SqL.of (by walk_at "at")) | exact Or.inr (SqT.of (by walk_at "at")) | fail))
 | ((with_reducible show Dp _ _ _ _); (first | assumption | exact hO.dpL (by walk_at "mem") | exact .lst (SqL.of (by walk_at "at")) (hO.all (by walk_at "dv")) | exact hO.one (by walk_at "dv") | fail))
 | ((with_reducible show TruV _ _ _ _); (first | exact Or.inl ⟨_, SqL.of (by walk_at "at"), rfl⟩ | exact Or.inr (Or.inr ⟨_, by walk_at "at", rfl⟩) | exact Or.inr (Or.inl ⟨_, SqT.of (by walk_at "at"), rfl⟩) | fail))
 | ((with_reducible show RgOk _ _); exact RgOk.of_le (by omega) (by omega) (by omega) (by omega))
 | rfl | (with_reducible assumption) | apply And.intro | apply Exists.intro | refine iteT ?_ | refine iteF ?_
 | (walk_at "st"; (try walk_at "fl"))
 | ((with_reducible show ∀ _ : Addr, _ = none → _); (fail_if_success (with_reducible show ∀ _ : Addr, _ = none → ∃ _ : Nat → Nat → Hp → Prop, _)); intro p fp; walk_at "st")
 | (refine Or.inl ⟨SqL.of (by walk_at "at"), ?_⟩) | (refine Or.inr ⟨SqT.of (by walk_at "at"), ?_⟩) | exact Or.inl ⟨_, by walk_at "at", rfl⟩ | exact Or.inl ⟨rfl, _, SqL.of (by walk_at "at")⟩ | exact tyl_of (by walk_at "at") | exact Or.inl (SqL.of (by walk_at "at")) | exact Or.inr (SqT.of (by walk_at "at")) | exact Or.inl (by walk_at "at") | exact size_le (Nat.le_of_ble_eq_true rfl) | exact Nat.le_of_ble_eq_true rfl | exact True.intro | exact Or.inl rfl | exact Or.inr rfl | (show (_ : Prop); assumption) | (show (_ : Prop); omega) | (show (_ : Prop); dsimp only; omega) | exact mulw64 (by omega) (by omega) | exact mulw64 (by (try dsimp only); omega) (by (try dsimp only); omega) | fail))
local macro_rules | `(tactic| walk_at "go") => `(tactic| repeat walk_at "g1")

section
variable {P : Program} {w : World} {K : PySem.W.Frag} {mg : Str → Option Value} {base : Heap}
theorem sD_filter (us : List SR) (p : Int → Bool) : (sD us).filter (fun r => p r.1) = sD (us.filter fun r => p r.1) := by
  rw [sD, sD, List.filter_map]; rfl
def sp_dropped (K : PySem.W.Frag) (C : Addr) : Sp := fun vs H Q _ => ∃ (x dx d : Addr) (m : Int) (us : List SR) (n : Int) (R : List (Addr × Ob)) (P : List Pf), vs = [.ref x, .int n] ∧ Own K H (stn C x dx d m us ++ R) P ∧ 0 ≤ n ∧ us.length ≤ 1000 ∧ (skeys us).Nodup ∧
  ∀ (p : Addr) (H' : Hp) (P' : List Pf), Ps P P' → Own K H' ((p, .raw (.lst ((srt ((skeys us).filter fun z => decide (n ≤ z))).reverse.map V.int))) :: (stn C x dx d m (us.filter fun r => decide (r.1 < n)) ++ R)) P' → Q (.ref p) H'
theorem ok_Stations_dropped (T : Txt w K mg) : FnOk P w K mg base CX0 5 T.f_Stations_dropped T.fd_Stations_dropped ["self", "number"] (sp_dropped K T.C_Stations) := by
  have G_drop_from := ok_drop_from (P := P) (w := w) (base := base) T
  refine T.F_Stations_dropped.ok sc_Stations_dropped (fun vs H Q E h => ?_) (fun cdv A outer s H vs Q E hr h => ?_)
  · obtain ⟨x, dx, d, m, us, n, R, P, rfl, hO, hn, hz, hnd, k⟩ := h; rfl
  · obtain ⟨x, dx, d, m, us, n, R, P, rfl, hO, hn, hz, hnd, k⟩ := h
    refine ⟨_, (pss_one (ps_ret (pe_call G_drop_from (hr.mono (by decide)) rfl T.g_drop_from T.F_drop_from.kp T.b_drop_from .nil pass0 (pa_cons (pe_fld (pv 0) rfl) (pa_cons (pv 1) pa_nil))))), ?_⟩
    clear G_drop_from
    clear hr
    simp only [stn, List.cons_append, List.nil_append] at hO k
    have hz2 : (sD us).length ≤ 1000 := by rw [sD, List.length_map]; exact hz
    have hnd2 : ((sD us).map Prod.fst).Nodup := by rw [sD_keys]; exact hnd
    walk_at "go"
    intro p H1 P1 sp hO
    rw [sD_keys] at hO
    rw [← sD_filter us (fun z => decide (z < n))] at k
    refine k p _ P1 sp ?_
    walk_at "fin"
def sp_copy (K : PySem.W.Frag) (C : Addr) : Sp := fun vs H Q _ => ∃ (x dx d : Addr) (m : Int) (us : List SR) (R : List (Addr × Ob)) (P : List Pf), vs = [.ref x] ∧ (1 ≤ m ∧ m ≤ 32) ∧ Own K H (stn C x dx d m us ++ R) P ∧
  ∀ (x' dx' d' : Addr) (H' : Hp) (P' : List Pf), Ps P P' → Own K H' (stn C x' dx' d' m us ++ (stn C x dx d m us ++ R)) P' → Q (.ref x') H'
theorem ok_Stations_copy (T : Txt w K mg) : FnOk P w K mg base CX0 6 T.f_Stations_copy T.fd_Stations_copy ["self"] (sp_copy K T.C_Stations) := by
  have G_Stations_init := ok_Stations_init (P := P) (w := w) (base := base) T
  refine T.F_Stations_copy.ok sc_Stations_copy (fun vs H Q E h => ?_) (fun cdv A outer s H vs Q E hr h => ?_)
  · obtain ⟨x, dx, d, m, us, R, P, rfl, hm, hO, k⟩ := h; rfl
  · obtain ⟨x, dx, d, m, us, R, P, rfl, hm, hO, k⟩ := h
    refine ⟨_, (pss_cons (ps_set (i := 1) sc_Stations_copy.nd rfl (Or.inl rfl) (pe_make T.mk_Stations G_Stations_init (hr.mono (by decide)) rfl T.g_Stations T.b_Stations_init .nil pass0 (pa_cons (pe_fld (pv 0) rfl) pa_nil)))
        (pss_cons (ps_fld (pv 1) (pe_callTy call_dictD (by rfl) T.m_dict (by decide +kernel) (pa_cons (pe_fld (pv 0) rfl) pa_nil)) rfl)
        (pss_one (ps_ret (pv 1))))), ?_⟩
    clear G_Stations_init
    clear hr
    simp only [stn, List.cons_append, List.nil_append] at hO k
    obtain ⟨kvs, hk, o1⟩ := hO.openD (a := d) (by walk_at "mem")
    replace hO := o1 _ (by walk_at "setat")
    clear o1
    walk_at "go"
    walk_at "mk"
    walk_at "go"
    intro d2 H2 hO
    simp only [stn, List.cons_append, List.nil_append] at hO
    walk_at "go"
    refine k p1 p2 p H1 (.dp (kvs.map Prod.snd) ((ik (sD us)).map Prod.snd) :: P) (Ps.skip Ps.refl) ?_
    walk_at "fin"
    all_goals first | exact hk | exact Dv.of (by walk_at "mem")
end
end K72

set_option Elab.async false
set_option linter.all false
set_option maxRecDepth 100000
set_option maxHeartbeats 8000000

namespace K72
open PySem PySem.Spec PyProof.Rows L2 Hx 
local macro_rules | `(tactic| walk_at "sm") => `(tactic| repeat' (first | assumption | apply Hx.Same.upd | exact L2.Same.refl _ | apply same_trans'))
local macro_rules | `(tactic| walk_at "hp") => `(tactic| repeat' (first | assumption | exact upd_same | apply old_upd | apply same_at))
local macro_rules | `(tactic| walk_at "rd") => `(tactic| repeat' (first | rfl | apply Exists.intro | apply And.intro | refine iteT ?_ | refine iteF ?_ | exact upd_same | exact SqL.of (by assumption) | exact SqL.of upd_same | exact SqT.of upd_same | exact SqT.of (by assumption) | ((with_reducible show (_ : Int) < _); omega) | ((with_reducible show (_ : Int) ≤ _); omega) | (show (_ : Prop); assumption) | exact Or.inl ⟨_, by assumption, rfl⟩ | exact Or.inl ⟨rfl, _, SqL.of (by assumption)⟩ | exact Or.inl ⟨rfl, _, SqL.of upd_same⟩ | apply old_upd | apply Hx.SqL.new | apply tyl_new | apply Pot.new | exact same_at (by assumption) (by assumption) | exact Or.inl (SqL.of (by assumption)) | exact Or.inl (by assumption) | exact Or.inl (SqL.of upd_same) | exact size_le (Nat.le_of_ble_eq_true rfl) | exact Nat.le_of_ble_eq_true rfl | exact True.intro | exact Or.inl rfl | exact Or.inr rfl | (show (_ : Prop); omega) | (show (_ : Prop); dsimp only; omega) | exact mulw64 (by omega) (by omega) | exact mulw64 (by (try dsimp only); omega) (by (try dsimp only); omega)))
set_option hygiene false in
local macro_rules | `(tactic| walk_at "fl") => `(tactic| simp only [pu_Whims_numbers, pi_Whims_numbers, pu_Whims_position, pi_Whims_position, pu_Stations_many, pi_Stations_many, pu_Stations_rows, pi_Stations_rows] at hO)
local macro_rules | `(tactic| walk_at "mem") => `(tactic| ((repeat (first | exact List.Mem.head _ | apply List.Mem.tail | fail)); done))
local macro_rules | `(tactic| walk_at "setat") => `(tactic| ((repeat (first | (with_reducible exact At.head) | (with_reducible apply At.tail) | (with_reducible apply At.app) | fail)); done))
set_option hygiene false in
local macro_rules | `(tactic| walk_at "dv") => `(tactic| ((repeat' (first | exact Dv.nil | exact Dv.of (by walk_at "mem") | exact Dv.ints _ | exact Dv1.of (by walk_at "mem") | exact Dv1.int _ | exact Dv1.non | exact Dv1.bl _ | exact Dv1.str _ | (with_reducible apply Dv.cons) | refine Dv1.tup (by walk_at "mem") ?_ | refine Dv1.lst (by walk_at "mem") ?_ | (with_reducible apply Dv.app) | fail)); done))
local macro_rules | `(tactic| walk_at "ft") => `(tactic| (first | (with_reducible exact Ft.refl) | ((with_reducible apply Ft.toL); focus walk_at "dv") | ((with_reducible apply Ft.toS); focus assumption) | (with_reducible apply Ft.lst) | (with_reducible apply Ft.Le) | (with_reducible apply Ft.dK) | (with_reducible apply Ft.De) | (with_reducible apply Ft.ins) | (with_reducible apply Ft.toL) | (with_reducible apply Ft.toS) | (with_reducible apply Ft.toD) | fail))
local macro_rules | `(tactic| walk_at "sbL") => `(tactic| repeat' (first | (with_reducible exact Sb.refl _) | exact Sb.nil | (with_reducible apply Sb.cons) | (with_reducible apply Sb.app) | (with_reducible exact Pk.one) | (with_reducible exact Pk.here) | (with_reducible exact Pk.all) | (with_reducible apply Pk.skip1) | (with_reducible apply Pk.skipB) | (with_reducible apply Sb.skip) | (with_reducible apply Sb.skipB) | ((with_reducible show Ft _ _ _ _); walk_at "ft") | ((with_reducible show (_ : List _) = _); (first | rfl | (simp [List.map_set, List.map_append]; done) | fail)) | fail))
local macro_rules | `(tactic| walk_at "sb") => `(tactic| ((walk_at "sbL"); done))
local macro_rules | `(tactic| walk_at "ps") => `(tactic| ((repeat' (first | (with_reducible exact Ps.refl) | exact Ps.nil | (with_reducible apply Ps.cons) | exact List.Mem.head _ | apply List.Mem.tail | (with_reducible apply Ps.skip) | fail)); done))
set_option hygiene false in
local macro_rules | `(tactic| walk_at "at") => `(tactic| first | assumption | exact Own.raw hO (by walk_at "mem") | exact Own.ptup hO (by walk_at "mem") | exact Own.plst hO (by walk_at "mem") | fail)
set_option hygiene false in
local macro_rules | `(tactic| walk_at "st") => `(tactic| (rw [upd_mkO hO]; generalize e : updX _ _ _ = H1; (first | ((apply Own.cset hO e); (focus walk_at "setat"); (try clear hO e); intro hO) | ((apply Own.cnewT hO e); (focus assumption); (try clear hO e); intro hO) | ((apply Own.cnew hO e); (focus assumption); (try clear hO e); intro hO) | fail)))
set_option hygiene false in
local macro_rules | `(tactic| walk_at "mk") => `(tactic| (intro p1 p2 f1 f2 f3; rw [upd_mkO hO]; generalize e : upd (updX _ _ _) _ _ = H1; apply Own.cmake hO f1 f2 f3 e; (try clear hO e); intro hO))
set_option hygiene false in
local macro_rules | `(tactic| walk_at "own") => `(tactic| (first | ((apply Own.sub hO); (focus walk_at "sb"); (focus walk_at "ps")) | ((apply Own.sub hF); (focus walk_at "sb"); (focus walk_at "ps")) | fail))
set_option hygiene false in
local macro_rules | `(tactic| walk_at "fin") => `(tactic| (refine Own.sub hO ?_ (by walk_at "ps"); walk_at "sbL"))
set_option hygiene false in
local macro_rules | `(tactic| walk_at "g1") => `(tactic| (first
 | ((with_reducible show (_ : Option HO) = _); walk_at "at")
 | ((with_reducible show (_ : Int) < _); omega) | ((with_reducible show (_ : Int) ≤ _); omega)
 | ((with_reducible show (_ : Nat) < _); (first | assumption | exact Nat.le_of_ble_eq_true rfl | exact size_lt (Nat.le_of_ble_eq_true rfl) | omega | (simp; done) | (simp; omega) | fail))
 | ((with_reducible show (_ : Nat) ≤ _); (first | assumption | exact Nat.le_of_ble_eq_true rfl | exact size_le (Nat.le_of_ble_eq_true rfl) | omega | (simp; done) | (simp; omega) | fail))
 | ((with_reducible show Own _ _ _ _); (first | walk_at "own" | (walk_at "st"; walk_at "own") | fail))
 | ((with_reducible show SqL _ _ _ _); (first | assumption | exact SqL.of (by walk_at "at") | fail))
 | ((with_reducible show SqT _ _ _ _); (first | assumption | exact hO.psq (by walk_at "mem") | exact SqT.of (by walk_at "at") | fail))
  | ((with_reducible show Cls _ _); exact Txt.cl_Whims T) | ((with_reducible show NoAttr _ _ _); exact Txt.n_Whims_numbers T) | (with_reducible exact gt_Whims_numbers) | ((with_reducible show NoAttr _ _ _); exact Txt.n_Whims_position T) | (with_reducible exact gt_Whims_position) | ((with_reducible show Cls _ _); exact Txt.cl_Stations T) | ((with_reducible show NoAttr _ _ _); exact Txt.n_Stations_many T) | (with_reducible exact gt_Stations_many) | ((with_reducible show NoAttr _ _ _); exact Txt.n_Stations_rows T) | (with_reducible exact gt_Stations_rows)  | ((with_reducible show V.ref _ = V.ref _); (first | rfl | fail))
 | ((with_reducible show DGet _ _ _ _); (first | exact DGet.ki (by walk_at "at") (by assumption) | exact DGet.kiF (by walk_at "at") (by assumption) | fail))
 | ((with_reducible show DPut _ _ _ _ _); exact DPut.ki (by walk_at "at") (by assumption))
 | ((with_reducible show Rd _ _ _); (first | exact Or.inl (by walk_at "at") | exact Or.inr ⟨_, by walk_at "at"⟩ | fail))
 | ((with_reducible show (∃ _ : List (Key × V), _) ∨ _); refine Or.inl ⟨_, by walk_at "at", ?_⟩)
 | ((with_reducible show Dv _ _ _ _); focus walk_at "dv") | ((with_reducible show Dv1 _ _ _ _); focus walk_at "dv")
 | ((with_reducible show IsD _ _); exact Or.inl ⟨_, Or.inl (by walk_at "at")⟩)
 | ((with_reducible show V.int _ = kV _); exact kV_int)
 | ((with_reducible show Option.isSome _ = true); (first | exact isSome_ofV (by assumption) | assumption | fail))
 | ((with_reducible show SqL _ _ _ _ ∨ SqT _ _ _ _); (first | exact Or.inl (by assumption) | exact Or.inr (by assumption) | exact Or.inl (SqL.of (by walk_at "at")) | exact Or.inr (SqT.of (by walk_at "at")) | fail))
 | ((with_reducible show Dp _ _ _ _); (first | assumption | exact hO.dpL (by walk_at "mem") | exact .lst (SqL.of (by walk_at "at")) (hO.all (by walk_at "dv")) | exact hO.one (by walk_at "dv") | fail))
 | ((with_reducible show TruV _ _ _ _); (first | exact Or.inl ⟨_, SqL.of (by walk_at "at"), rfl⟩ | exact Or.inr (Or.inr ⟨_, by walk_at "at", rfl⟩) | exact Or.inr (Or.inl ⟨_, SqT.of (by walk_at "at"), rfl⟩) | fail))
 | ((with_reducible show RgOk _ _); exact RgOk.of_le (by omega) (by omega) (by omega) (by omega))
 | rfl | (with_reducible assumption) | apply And.intro | apply Exists.intro | refine iteT ?_ | refine iteF ?_
 | (walk_at "st"; (try walk_at "fl"))
 | ((with_reducible show ∀ _ : Addr, _ = none → _); (fail_if_success (with_reducible show ∀ _ : Addr, _ = none → ∃ _ : Nat → Nat → Hp → Prop, _)); intro p fp; walk_at "st")
 | (refine Or.inl ⟨SqL.of (by walk_at "at"), ?_⟩) | (refine Or.inr ⟨SqT.of (by walk_at "at"), ?_⟩) | exact Or.inl ⟨_, by walk_at "at", rfl⟩ | exact Or.inl ⟨rfl, _, SqL.of (by walk_at "at")⟩ | exact tyl_of (by walk_at "at") | exact Or.inl (SqL.of (by walk_at "at")) | exact Or.inr (SqT.of (by walk_at "at")) | exact Or.inl (by walk_at "at") | exact size_le (Nat.le_of_ble_eq_true rfl) | exact Nat.le_of_ble_eq_true rfl | exact True.intro | exact Or.inl rfl | exact Or.inr rfl | (show (_ : Prop); assumption) | (show (_ : Prop); omega) | (show (_ : Prop); dsimp only; omega) | exact mulw64 (by omega) (by omega) | exact mulw64 (by (try dsimp only); omega) (by (try dsimp only); omega) | fail))
local macro_rules | `(tactic| walk_at "go") => `(tactic| repeat walk_at "g1")

section
variable {P : Program} {w : World} {K : PySem.W.Frag} {mg : Str → Option Value} {base : Heap}
def sp_Lpot (K : PySem.W.Frag) : Sp := fun vs H Q _ => ∃ (a : Addr) (ns : List Int), vs = [.ref a, .int 0] ∧ SqL K H a (ns.map V.int) ∧ ns.length ≤ 63 ∧ ∀ p (H' : Hp), Own K H' (pt p ++ []) [] → Q (.ref p) H'
theorem ok_Lpot (T : Txt w K mg) : FnOk P w K mg base CX0 1 T.f_Lpot T.fd_Lpot ["_law_script", "_law_k"] (sp_Lpot K) := by
  refine T.F_Lpot.ok sc_Lpot (fun vs H Q E h => ?_) (fun cdv A outer s H vs Q E hr h => ?_)
  · obtain ⟨a, ns, rfl, hS, hl, k⟩ := h; rfl
  · obtain ⟨a, ns, rfl, hS, hl, k⟩ := h
    refine ⟨_, (pss_cons (ps_set (i := 2) sc_Lpot.nd rfl (Or.inl rfl) (pe_ifExp (pt_cmpR op_lt (pv 1) (pe_callB call_len_list (by rfl) T.m_len (by decide +kernel) (pa_cons (pv 0) pa_nil)) (nomark _)) (pe_callB call_abs (by rfl) T.m_abs (by decide +kernel) (pa_cons (pe_ix ix_list (pv 0) (pv 1) (fun _ _ => rfl)) pa_nil)) (pe_op op_add (pe_op op_mulW pe_int (pv 1)) pe_int)))
        (pss_cons (ps_set (i := 3) sc_Lpot.nd rfl (Or.inl rfl) (pe_op op_add (pe_op op_mod (pe_callTy call_int1i (by rfl) T.m_int (by decide +kernel) (pa_cons (pe_op op_add (pe_op op_add (pe_op op_mulW (pe_op op_mod (pe_callTy call_int1i (by rfl) T.m_int (by decide +kernel) (pa_cons (pv 2) pa_nil)) pe_int) pe_int) (pe_op op_mulW pe_int (pv 1))) pe_int) pa_nil)) pe_int) pe_int))
        (pss_one (ps_ret (pe_lst (pa_cons (pe_callB (call_max2 rfl) (by rfl) T.m_max (by decide +kernel) (pa_cons pe_int (pa_cons (pe_op op_sub (pv 2) (pe_op op_pow pe_int pe_int)) pa_nil))) (pa_cons (pv 3) pa_nil))))))), ?_⟩
    clear hr
    simp only [pt, List.cons_append, List.nil_append] at k
    have hO : Own K H [] [] := Own.start
    walk_at "go"
    refine iteD (fun h => ?_) (fun h => ?_)
    · obtain ⟨v, hv, hm⟩ := pick_at (xs := ns.map V.int) (d := 0) (by omega) (by simpa using h)
      obtain ⟨z, _, rfl⟩ := List.mem_map.mp hm
      walk_at "go"
      apply k
      walk_at "fin"
      exact ⟨_, _, rfl, by split <;> omega, by omega, by omega⟩
    · walk_at "go"
      apply k
      walk_at "fin"
      exact ⟨_, _, rfl, by split <;> omega, by omega, by omega⟩

theorem ok_Ldraw (T : Txt w K mg) : FnOk P w K mg base CX0 1 T.f_Ldraw T.fd_Ldraw ["_law_pot_here", "_law_sides"] (spDrw K) := by
  refine T.F_Ldraw.ok sc_Ldraw (fun vs H Q E h => ?_) (fun cdv A outer s H vs Q E hr h => ?_)
  · obtain ⟨a, n, R, P, rfl, hO, hn, hn2, k⟩ := h; rfl
  · obtain ⟨a, n, R, P, rfl, hO, hn, hn2, k⟩ := h
    refine ⟨_, (pss_cons (ps_if (pt_cmpR op_gt (pe_ix ix_list (pv 0) pe_int (fun _ _ => rfl)) pe_int (nomark _))
          (pss_cons (ps_asg (pe_callB call_divmod (by rfl) T.m_divmod (by decide +kernel) (pa_cons (pe_ix ix_list (pv 0) pe_int (fun _ _ => rfl)) (pa_cons (pv 1) pa_nil))) (pg_tup rfl (pgs_cons (pg_sub (pv 0) pe_int set_list) (pgs_cons (pg_name (i := 2) sc_Ldraw.nd rfl (Or.inl rfl)) pgs_nil))))
          (pss_one (ps_ret (pv 2))))
          pss_nil)
        (pss_cons (ps_asg (pe_op op_mod (pe_callTy call_int1i (by rfl) T.m_int (by decide +kernel) (pa_cons (pe_op op_add (pe_op op_mulW (pe_ix ix_list (pv 0) pe_int (fun _ _ => rfl)) pe_int) pe_int) pa_nil)) pe_int) (pg_sub (pv 0) pe_int set_list))
        (pss_one (ps_ret (pe_op op_mod (pe_callTy call_int1i (by rfl) T.m_int (by decide +kernel) (pa_cons (pe_op op_fdiv (pe_op op_mod (pe_callTy call_int1i (by rfl) T.m_int (by decide +kernel) (pa_cons (pe_op op_mulW (pe_ix ix_list (pv 0) pe_int (fun _ _ => rfl)) (pe_ix ix_list (pv 0) pe_int (fun _ _ => rfl))) pa_nil)) pe_int) pe_int) pa_nil)) (pv 1)))))), ?_⟩
    clear hr
    simp only [pt, List.cons_append, List.nil_append] at hO k
    obtain ⟨o, ⟨x, y, rfl, hx, hy, hy2⟩, o1⟩ := hO.openS (a := a) (φ := PotO) (by walk_at "mem")
    replace hO := o1 _ (by walk_at "setat")
    clear o1
    walk_at "go"
    refine iteD (fun h => ?_) (fun h => ?_)
    · walk_at "go"
      refine k (x % n) _ (Int.emod_nonneg _ (by omega)) (Int.emod_lt_of_pos _ hn) ?_
      walk_at "fin"
      exact ⟨x / n, y, rfl, Int.ediv_nonneg hx (by omega), hy, hy2⟩
    · walk_at "go"
      refine k _ _ (Int.emod_nonneg _ (by omega)) (Int.emod_lt_of_pos _ hn) ?_
      walk_at "fin"
      exact ⟨x, _, rfl, hx, by omega, by omega⟩
def sp_Lpick (K : PySem.W.Frag) : Sp := fun vs H Q _ => ∃ (a l : Addr) (xs : List V) (R : List (Addr × Ob)) (P : List Pf), vs = [.ref a, .ref l] ∧ Own K H (pt a ++ ((l, .raw (.lst xs)) :: R)) P ∧ 0 < xs.length ∧ xs.length ≤ 1000 ∧
  ∀ (i : Nat) (v : V) (H' : Hp), xs[i]? = some v → Own K H' (pt a ++ ((l, .raw (.lst xs)) :: R)) P → Q v H'
theorem ok_Lpick (T : Txt w K mg) : FnOk P w K mg base CX0 2 T.f_Lpick T.fd_Lpick ["_law_pot_here", "_law_some"] (sp_Lpick K) := by
  have G_Ldraw := ok_Ldraw (P := P) (w := w) (base := base) T
  refine T.F_Lpick.ok sc_Lpick (fun vs H Q E h => ?_) (fun cdv A outer s H vs Q E hr h => ?_)
  · obtain ⟨a, l, xs, R, P, rfl, hO, h0, h1, k⟩ := h; rfl
  · obtain ⟨a, l, xs, R, P, rfl, hO, h0, h1, k⟩ := h
    refine ⟨_, (pss_one (ps_ret (pe_ix ix_list (pv 1) (pe_call G_Ldraw (hr.mono (by decide)) rfl T.g_Ldraw T.F_Ldraw.kp T.b_Ldraw .nil pass0 (pa_cons (pv 0) (pa_cons (pe_callB call_len_list (by rfl) T.m_len (by decide +kernel) (pa_cons (pv 1) pa_nil)) pa_nil))) (fun _ _ => rfl)))), ?_⟩
    clear G_Ldraw
    clear hr
    simp only [pt, List.cons_append, List.nil_append] at hO k
    walk_at "go"
    intro d H1 d0 d1 hO
    obtain ⟨d, rfl⟩ := Int.eq_ofNat_of_zero_le d0
    have dl : d < xs.length := by omega
    have ad : atI xs (d : Int) = some xs[d] := atI_nat (List.getElem?_eq_getElem dl)
    simp only [pt, List.cons_append, List.nil_append] at hO
    walk_at "go"
    exact k d _ _ (List.getElem?_eq_getElem dl) hO
end
end K72

set_option Elab.async false
set_option linter.all false
set_option maxRecDepth 100000
set_option maxHeartbeats 8000000

namespace K72
open PySem PySem.Spec PyProof.Rows L2 Hx 
local macro_rules | `(tactic| walk_at "sm") => `(tactic| repeat' (first | assumption | apply Hx.Same.upd | exact L2.Same.refl _ | apply same_trans'))
local macro_rules | `(tactic| walk_at "hp") => `(tactic| repeat' (first | assumption | exact upd_same | apply old_upd | apply same_at))
local macro_rules | `(tactic| walk_at "rd") => `(tactic| repeat' (first | rfl | apply Exists.intro | apply And.intro | refine iteT ?_ | refine iteF ?_ | exact upd_same | exact SqL.of (by assumption) | exact SqL.of upd_same | exact SqT.of upd_same | exact SqT.of (by assumption) | ((with_reducible show (_ : Int) < _); omega) | ((with_reducible show (_ : Int) ≤ _); omega) | (show (_ : Prop); assumption) | exact Or.inl ⟨_, by assumption, rfl⟩ | exact Or.inl ⟨rfl, _, SqL.of (by assumption)⟩ | exact Or.inl ⟨rfl, _, SqL.of upd_same⟩ | apply old_upd | apply Hx.SqL.new | apply tyl_new | apply Pot.new | exact same_at (by assumption) (by assumption) | exact Or.inl (SqL.of (by assumption)) | exact Or.inl (by assumption) | exact Or.inl (SqL.of upd_same) | exact size_le (Nat.le_of_ble_eq_true rfl) | exact Nat.le_of_ble_eq_true rfl | exact True.intro | exact Or.inl rfl | exact Or.inr rfl | (show (_ : Prop); omega) | (show (_ : Prop); dsimp only; omega) | exact mulw64 (by omega) (by omega) | exact mulw64 (by (try dsimp only); omega) (by (try dsimp only); omega)))
set_option hygiene false in
local macro_rules | `(tactic| walk_at "fl") => `(tactic| simp only [pu_Whims_numbers, pi_Whims_numbers, pu_Whims_position, pi_Whims_position, pu_Stations_many, pi_Stations_many, pu_Stations_rows, pi_Stations_rows] at hO)
local macro_rules | `(tactic| walk_at "mem") => `(tactic| ((repeat (first | exact List.Mem.head _ | apply List.Mem.tail | fail)); done))
local macro_rules | `(tactic| walk_at "setat") => `(tactic| ((repeat (first | (with_reducible exact At.head) | (with_reducible apply At.tail) | (with_reducible apply At.app) | fail)); done))
set_option hygiene false in
local macro_rules | `(tactic| walk_at "dv") => `(tactic| ((repeat' (first | exact Dv.nil | exact Dv.of (by walk_at "mem") | exact Dv.ints _ | exact Dv1.of (by walk_at "mem") | exact Dv1.int _ | exact Dv1.non | exact Dv1.bl _ | exact Dv1.str _ | (with_reducible apply Dv.cons) | refine Dv1.tup (by walk_at "mem") ?_ | refine Dv1.lst (by walk_at "mem") ?_ | (with_reducible apply Dv.app) | fail)); done))
local macro_rules | `(tactic| walk_at "ft") => `(tactic| (first | (with_reducible exact Ft.refl) | ((with_reducible apply Ft.toL); focus walk_at "dv") | ((with_reducible apply Ft.toS); focus assumption) | (with_reducible apply Ft.lst) | (with_reducible apply Ft.Le) | (with_reducible apply Ft.dK) | (with_reducible apply Ft.De) | (with_reducible apply Ft.ins) | (with_reducible apply Ft.toL) | (with_reducible apply Ft.toS) | (with_reducible apply Ft.toD) | fail))
local macro_rules | `(tactic| walk_at "sbL") => `(tactic| repeat' (first | (with_reducible exact Sb.refl _) | exact Sb.nil | (with_reducible apply Sb.cons) | (with_reducible apply Sb.app) | (with_reducible exact Pk.one) | (with_reducible exact Pk.here) | (with_reducible exact Pk.all) | (with_reducible apply Pk.skip1) | (with_reducible apply Pk.skipB) | (with_reducible apply Sb.skip) | (with_reducible apply Sb.skipB) | ((with_reducible show Ft _ _ _ _); walk_at "ft") | ((with_reducible show (_ : List _) = _); (first | rfl | (simp [List.map_set, List.map_append]; done) | fail)) | fail))
local macro_rules | `(tactic| walk_at "sb") => `(tactic| ((walk_at "sbL"); done))
local macro_rules | `(tactic| walk_at "ps") => `(tactic| ((repeat' (first | (with_reducible exact Ps.refl) | exact Ps.nil | (with_reducible apply Ps.cons) | exact List.Mem.head _ | apply List.Mem.tail | (with_reducible apply Ps.skip) | fail)); done))
set_option hygiene false in
local macro_rules | `(tactic| walk_at "at") => `(tactic| first | assumption | exact Own.raw hO (by walk_at "mem") | exact Own.ptup hO (by walk_at "mem") | exact Own.plst hO (by walk_at "mem") | fail)
set_option hygiene false in
local macro_rules | `(tactic| walk_at "st") => `(tactic| (rw [upd_mkO hO]; generalize e : updX _ _ _ = H1; (first | ((apply Own.cset hO e); (focus walk_at "setat"); (try clear hO e); intro hO) | ((apply Own.cnewT hO e); (focus assumption); (try clear hO e); intro hO) | ((apply Own.cnew hO e); (focus assumption); (try clear hO e); intro hO) | fail)))
set_option hygiene false in
local macro_rules | `(tactic| walk_at "mk") => `(tactic| (intro p1 p2 f1 f2 f3; rw [upd_mkO hO]; generalize e : upd (updX _ _ _) _ _ = H1; apply Own.cmake hO f1 f2 f3 e; (try clear hO e); intro hO))
set_option hygiene false in
local macro_rules | `(tactic| walk_at "own") => `(tactic| (first | ((apply Own.sub hO); (focus walk_at "sb"); (focus walk_at "ps")) | ((apply Own.sub hF); (focus walk_at "sb"); (focus walk_at "ps")) | fail))
set_option hygiene false in
local macro_rules | `(tactic| walk_at "fin") => `(tactic| (refine Own.sub hO ?_ (by walk_at "ps"); walk_at "sbL"))
set_option hygiene false in
local macro_rules | `(tactic| walk_at "g1") => `(tactic| (first
 | ((with_reducible show (_ : Option HO) = _); walk_at "at")
 | ((with_reducible show (_ : Int) < _); omega) | ((with_reducible show (_ : Int) ≤ _); omega)
 | ((with_reducible show (_ : Nat) < _); (first | assumption | exact Nat.le_of_ble_eq_true rfl | exact size_lt (Nat.le_of_ble_eq_true rfl) | omega | (simp; done) | (simp; omega) | fail))
 | ((with_reducible show (_ : Nat) ≤ _); (first | assumption | exact Nat.le_of_ble_eq_true rfl | exact size_le (Nat.le_of_ble_eq_true rfl) | omega | (simp; done) | (simp; omega) | fail))
 | ((with_reducible show Own _ _ _ _); (first | walk_at "own" | (walk_at "st"; walk_at "own") | fail))
 | ((with_reducible show SqL _ _ _ _); (first | assumption | exact SqL.of (by walk_at "at") | fail))
 | ((with_reducible show SqT _ _ _ _); (first | assumption | exact hO.psq (by walk_at "mem") | exact SqT.of (by walk_at "at") | fail))
  | ((with_reducible show Cls _ _); exact Txt.cl_Whims T) | ((with_reducible show NoAttr _ _ _); exact Txt.n_Whims_numbers T) | (with_reducible exact gt_Whims_numbers) | ((with_reducible show NoAttr _ _ _); exact Txt.n_Whims_position T) | (with_reducible exact gt_Whims_position) | ((with_reducible show Cls _ _); exact Txt.cl_Stations T) | ((with_reducible show NoAttr _ _ _); exact Txt.n_Stations_many T) | (with_reducible exact gt_Stations_many) | ((with_reducible show NoAttr _ _ _); exact Txt.n_Stations_rows T) | (with_reducible exact gt_Stations_rows)  | ((with_reducible show V.ref _ = V.ref _); (first | rfl | fail))
 | ((with_reducible show DGet _ _ _ _); (first | exact DGet.ki (by walk_at "at") (by assumption) | exact DGet.kiF (by walk_at "at") (by assumption) | fail))
 | ((with_reducible show DPut _ _ _ _ _); exact DPut.ki (by walk_at "at") (by assumption))
 | ((with_reducible show Rd _ _ _); (first | exact Or.inl (by walk_at "at") | exact Or.inr ⟨_, by walk_at "at"⟩ | fail))
 | ((with_reducible show (∃ _ : List (Key × V), _) ∨ _); refine Or.inl ⟨_, by walk_at "at", ?_⟩)
 | ((with_reducible show Dv _ _ _ _); focus walk_at "dv") | ((with_reducible show Dv1 _ _ _ _); focus walk_at "dv")
 | ((with_reducible show IsD _ _); exact Or.inl ⟨_, Or.inl (by walk_at "at")⟩)
 | ((with_reducible show V.int _ = kV _); exact kV_int)
 | ((with_reducible show Option.isSome _ = true); (first | exact isSome_ofV (by assumption) | assumption | fail))
 | ((with_reducible show SqL _ _ _ _ ∨ SqT _ _ _ _); (first | exact Or.inl (by assumption) | exact Or.inr (by assumption) | exact Or.inl (SqL.of (by walk_at "at")) | exact Or.inr (SqT.of (by walk_at "at")) | fail))
 | ((with_reducible show Dp _ _ _ _); (first | assumption | exact hO.dpL (by walk_at "mem") | exact .lst (SqL.of (by walk_at "at")) (hO.all (by walk_at "dv")) | exact hO.one (by walk_at "dv") | fail))
 | ((with_reducible show TruV _ _ _ _); (first | exact Or.inl ⟨_, SqL.of (by walk_at "at"), rfl⟩ | exact Or.inr (Or.inr ⟨_, by walk_at "at", rfl⟩) | exact Or.inr (Or.inl ⟨_, SqT.of (by walk_at "at"), rfl⟩) | fail))
 | ((with_reducible show RgOk _ _); exact RgOk.of_le (by omega) (by omega) (by omega) (by omega))
 | rfl | (with_reducible assumption) | apply And.intro | apply Exists.intro | refine iteT ?_ | refine iteF ?_
 | (walk_at "st"; (try walk_at "fl"))
 | ((with_reducible show ∀ _ : Addr, _ = none → _); (fail_if_success (with_reducible show ∀ _ : Addr, _ = none → ∃ _ : Nat → Nat → Hp → Prop, _)); intro p fp; walk_at "st")
 | (refine Or.inl ⟨SqL.of (by walk_at "at"), ?_⟩) | (refine Or.inr ⟨SqT.of (by walk_at "at"), ?_⟩) | exact Or.inl ⟨_, by walk_at "at", rfl⟩ | exact Or.inl ⟨rfl, _, SqL.of (by walk_at "at")⟩ | exact tyl_of (by walk_at "at") | exact Or.inl (SqL.of (by walk_at "at")) | exact Or.inr (SqT.of (by walk_at "at")) | exact Or.inl (by walk_at "at") | exact size_le (Nat.le_of_ble_eq_true rfl) | exact Nat.le_of_ble_eq_true rfl | exact True.intro | exact Or.inl rfl | exact Or.inr rfl | (show (_ : Prop); assumption) | (show (_ : Prop); omega) | (show (_ : Prop); dsimp only; omega) | exact mulw64 (by omega) (by omega) | exact mulw64 (by (try dsimp only); omega) (by (try dsimp only); omega) | fail))
local macro_rules | `(tactic| walk_at "go") => `(tactic| repeat walk_at "g1")

section
variable {P : Program} {w : World} {K : PySem.W.Frag} {mg : Str → Option Value} {base : Heap}
structure Sw (rs : List SR) : Prop where
  nd : (skeys rs).Nodup
  nn : ∀ r ∈ rs, 0 ≤ r.1
  le : rs.length ≤ 40
  rd : ∀ r ∈ rs, r.2.1.length ≤ 3 ∧ r.2.2.length ≤ 3
def sp_Lseen (K : PySem.W.Frag) (C : Addr) : Sp := fun vs H Q _ => ∃ (x dx d o : Addr) (m : Int) (rs : List SR) (R : List (Addr × Ob)) (P : List Pf), vs = [.ref x, .ref o] ∧ Own K H (stn C x dx d m rs ++ ((o, .D (ik (sD rs))) :: R)) P ∧ Sw rs ∧
  ∀ (H' : Hp) (P' : List Pf), Ps P P' → Own K H' (stn C x dx d m rs ++ ((o, .D (ik (sD rs))) :: R)) P' → Q (.bl true) H'
theorem ok_Lseen (T : Txt w K mg) : FnOk P w K mg base CX0 6 T.f_Lseen T.fd_Lseen ["_law_rows", "_law_own"] (sp_Lseen K T.C_Stations) := by
  have G_Stations_held := ok_Stations_held (P := P) (w := w) (base := base) T
  have G_Stations_numbers := ok_Stations_numbers (P := P) (w := w) (base := base) T
  have G_Stations_ready := ok_Stations_ready (P := P) (w := w) (base := base) T
  have G_Stations_reads := ok_Stations_reads (P := P) (w := w) (base := base) T
  have G_Stations_waits_for := ok_Stations_waits_for (P := P) (w := w) (base := base) T
  refine T.F_Lseen.ok sc_Lseen (fun vs H Q E h => ?_) (fun cdv A outer s H vs Q E hr h => ?_)
  · obtain ⟨x, dx, d, o, m, rs, R, P, rfl, hO, hL, k⟩ := h; rfl
  · obtain ⟨x, dx, d, o, m, rs, R, P, rfl, hO, hL, k⟩ := h
    refine ⟨_, (pss_cons (ps_set (i := 2) sc_Lseen.nd rfl (Or.inl rfl) (pe_callB (call_sortedDI rfl) (by rfl) T.m_sorted (by decide +kernel) (pa_cons (pv 1) pa_nil)))
        (pss_cons (ps_if (PW.pt (pw_or (pt_cmpR (op_neS hr.units) (pe_meth0 (pv 0) T.cl_Stations T.me_Stations_numbers G_Stations_numbers (hr.mono (by decide)) T.b_Stations_numbers .nil pass0) (pv 2) (nomark _)) (pw_or1 (pt_cmpR op_ne (pe_prop (pv 0) T.cl_Stations T.p_Stations_held G_Stations_held (hr.mono (by decide)) T.b_Stations_held .nil pass0 rfl) (pe_callB call_len_list (by rfl) T.m_len (by decide +kernel) (pa_cons (pv 2) pa_nil)) (nomark _)))))
          (pss_one (ps_ret pe_bl))
          pss_nil)
        (pss_cons (ps_if (pt_cmpR (op_neS hr.units) (pe_meth0 (pv 0) T.cl_Stations T.me_Stations_ready G_Stations_ready (hr.mono (by decide)) T.b_Stations_ready .nil pass0) (pe_lc (own := [("_law_number", 3)]) (g := gName 3) (tt := (tTest (tOp (rEqD K) (tOp (rIxT K) (tDGet (tVar 1) (tVar 3)) (tC (.int 1))) (tLst tNil)))) rfl sc_Lseen.nd (pi_list (pv 2)) (blkOk_by (N := ["_law_rows", "_law_own", "_law_numbers", "_law_number"]) (sc := defScope s_Lseen) (by decide +kernel)) (fun _ _ _ _ _ => pg_name (i := 3) sc_Lseen.nd rfl (Or.inl rfl)) (fun _ _ _ _ _ => pts_one (pt_cmpR (op_eqD hr.units) (pe_ix ix_tup (pe_dget (hu_of hr) (pv 1) (pv 3) (fun _ _ => rfl)) pe_int (fun _ _ => rfl)) (pe_lst pa_nil) (nomark _))) (fun _ _ _ _ _ => (pv 3))) (nomark _))
          (pss_one (ps_ret pe_bl))
          pss_nil)
        (pss_cons (ps_forS PassesOwn.never rfl (pi_list (pv 2)) (pg_name (i := 3) sc_Lseen.nd rfl (Or.inl rfl))
          (pss_one (ps_if (PW.pt (pw_or (pt_cmpR (op_neS hr.units) (pe_meth (pv 0) T.cl_Stations T.me_Stations_waits_for G_Stations_waits_for (hr.mono (by decide)) T.b_Stations_waits_for .nil pass0 (pa_cons (pv 3) pa_nil)) (pe_ix ix_tup (pe_dget (hu_of hr) (pv 1) (pv 3) (fun _ _ => rfl)) pe_int (fun _ _ => rfl)) (nomark _)) (pw_or1 (pt_cmpR (op_neS hr.units) (pe_meth (pv 0) T.cl_Stations T.me_Stations_reads G_Stations_reads (hr.mono (by decide)) T.b_Stations_reads .nil pass0 (pa_cons (pv 3) pa_nil)) (pe_ix ix_tup (pe_dget (hu_of hr) (pv 1) (pv 3) (fun _ _ => rfl)) pe_int (fun _ _ => rfl)) (nomark _)))))
            (pss_one (ps_ret pe_bl))
            pss_nil)))
        (pss_one (ps_ret pe_bl)))))), ?_⟩
    clear G_Stations_held G_Stations_numbers G_Stations_ready G_Stations_reads G_Stations_waits_for
    clear hr
    have hl40 := hL.le
    have hl1000 : rs.length ≤ 1000 := by omega
    obtain ⟨kvs, hk, o1⟩ := hO.openD (a := o) (by walk_at "mem")
    replace hO := o1 _ (by walk_at "setat")
    clear o1
    have ek := ik_keys hk
    rw [sD_keys] at ek
    have hz64 : (skeys rs).length < 64 := by rw [skeys, List.length_map]; omega
    have hzz : (srt (skeys rs)).length ≤ 10000 := by rw [srt_len]; omega
    have S1 := sh_ints (srt (skeys rs))
    have S2 := sh_ints (rdy rs)
    walk_at "go"
    intro ys p hp hs fp
    obtain rfl := srt_of hp hs
    walk_at "go"
    intro q H1 hO
    have hlen : (rs.length : Int) = (((srt (skeys rs)).map V.int).length : Int) := by rw [List.length_map, srt_len, skeys, List.length_map]
    walk_at "go"
    refine iteN (fun h => absurd (congrArg V.int hlen) h) (fun _ => ?_)
    walk_at "go"
    intro p3 H3 P3 sp3 hO
    have hdp : Pf.dp (kvs.map Prod.snd) ((ik (sD rs)).map Prod.snd) ∈ P3 := sp3 _ List.mem_cons_self
    walk_at "go"
    intro D hD
    have S0 : SeqAt.shaped (.list []) = true := by decide
    refine lc_siftW (srt (skeys rs)) V.int (fun n => decide (wf rs n = [])) (walk_ints (K := K) (a := p)) hO hD hzz (fun H L' P' s t h => SqL.of (h.raw (s _ (by walk_at "mem")))) (fun i n v H9 H' P' ys Qn Qy hn hv sp hO kn ky => ?_) (fun H5 P5 sp5 hO => ?_)
    · obtain ⟨rfl, hv⟩ := hv
      rw [List.getElem?_map, hn] at hv
      injection hv with hv
      subst hv
      have hm : n ∈ skeys rs := srt_mem.mp (List.mem_of_getElem? hn)
      obtain ⟨r, hf, hr, e⟩ := sfind hm
      have vd := s_val hf
      obtain ⟨v, hv⟩ := valV_of hk vd
      have dv := Dv.val (K := K) (P := P') (Dv.of (sp _ hdp)) hk hv vd
      have el : wf rs n = r.2.2 := by unfold wf; rw [hf]
      obtain ⟨t, a, b, rfl, hO⟩ := hO.opn2 dv
      have a1 := at1 a b []
      have S3 : SeqAt.shaped (lD r.2.2) = true := sh_ints r.2.2
      walk_at "go"
      rw [el] at kn ky
      cases hw : r.2.2 with
      | nil =>
        rw [hw] at ky
        refine iteT ?_
        walk_at "go"
        refine ky (decide_eq_true rfl) _ _ ?_ (hO.sub (Sb.skip (Sb.refl _)) Ps.refl)
        walk_at "ps"
      | cons c l =>
        rw [hw] at kn
        refine iteF ?_
        refine kn (decide_eq_false (fun e => nomatch e)) _ _ ?_ (hO.sub (Sb.skip (Sb.refl _)) Ps.refl)
        walk_at "ps"
    · rw [show (srt (skeys rs)).filter (fun n => decide (wf rs n = [])) = rdy rs from rfl] at hO
      walk_at "go"
      replace hO := Own.sub (L' := stn T.C_Stations x dx d m rs ++ ((p, .raw (.lst ((srt (skeys rs)).map V.int))) :: (o, .raw (.dK kvs)) :: R)) hO (by walk_at "sb") Ps.refl
      have hdp5 := sp5 _ hdp
      refine ⟨for_list (xs := (srt (skeys rs)).map V.int) (fun i σ H' => Stop (∃ (t3 : Option V) (P' : List Pf), σ = [some (.ref x), some (.ref o), some (.ref p), t3] ∧ Ps P5 P' ∧ Own K H' (stn T.C_Stations x dx d m rs ++ ((p, .raw (.lst ((srt (skeys rs)).map V.int))) :: (o, .raw (.dK kvs)) :: R)) P')) ⟨⟨_, P5, rfl, Ps.refl, hO⟩⟩ (fun i σ H' hi h => ?_) (fun i v σ H' hv h => ?_) (fun σ H' h => ?_)⟩
      · obtain ⟨t3, P', rfl, sp', hO⟩ := h.h
        exact SqL.of (hO.raw (by walk_at "mem"))
      · clear hO
        obtain ⟨t3, P', rfl, sp', hO⟩ := h.h
        clear h
        obtain ⟨n, rfl, hn⟩ := int_get hv
        have hm : n ∈ skeys rs := srt_mem.mp (List.mem_of_getElem? hn)
        obtain ⟨r, hf, hr, e⟩ := sfind hm
        have hn0 : 0 ≤ n := e ▸ hL.nn r hr
        obtain ⟨v, hv⟩ := valV_of hk (s_val hf)
        have dv := Dv.val (K := K) (P := P') (Dv.of (sp' _ hdp5)) hk hv (s_val hf)
        obtain ⟨t, a, b, rfl, hO⟩ := hO.opn2 dv
        have a1 := at1 a b []
        have a0 := at0 a [b]
        have S3 := sh_ints r.2.2
        have S4 := sh_ints r.2.1
        walk_at "go"
        intro q5 H6 hO
        walk_at "go"
        intro q6 H7 hO
        walk_at "go"
        refine ⟨⟨_, P', rfl, sp', ?_⟩⟩
        refine Own.sub hO ?_ (Ps.skip (Ps.skip (Ps.skip Ps.refl)))
        walk_at "sbL"
      · clear hO
        obtain ⟨t3, P', rfl, sp', hO⟩ := h.h
        clear h
        walk_at "go"
        refine k H' P' (fun q hq => sp' q (sp5 q (sp3 q (List.mem_cons_of_mem _ hq)))) (Own.sub (hO.dv (Dv.of (sp' _ hdp5))) ?_ (Ps.skip Ps.refl))
        walk_at "sbL"
        · exact hk
        · exact Dv.of (by walk_at "mem")
end
end K72

set_option Elab.async false
set_option linter.all false
set_option maxRecDepth 100000
set_option maxHeartbeats 8000000

namespace K72
open PySem PySem.Spec PyProof.Rows L2 Hx 
local macro_rules | `(tactic| walk_at "sm") => `(tactic| repeat' (first | assumption | apply Hx.Same.upd | exact L2.Same.refl _ | apply same_trans'))
local macro_rules | `(tactic| walk_at "hp") => `(tactic| repeat' (first | assumption | exact upd_same | apply old_upd | apply same_at))
local macro_rules | `(tactic| walk_at "rd") => `(tactic| repeat' (first | rfl | apply Exists.intro | apply And.intro | refine iteT ?_ | refine iteF ?_ | exact upd_same | exact SqL.of (by assumption) | exact SqL.of upd_same | exact SqT.of upd_same | exact SqT.of (by assumption) | ((with_reducible show (_ : Int) < _); omega) | ((with_reducible show (_ : Int) ≤ _); omega) | (show (_ : Prop); assumption) | exact Or.inl ⟨_, by assumption, rfl⟩ | exact Or.inl ⟨rfl, _, SqL.of (by assumption)⟩ | exact Or.inl ⟨rfl, _, SqL.of upd_same⟩ | apply old_upd | apply Hx.SqL.new | apply tyl_new | apply Pot.new | exact same_at (by assumption) (by assumption) | exact Or.inl (SqL.of (by assumption)) | exact Or.inl (by assumption) | exact Or.inl (SqL.of upd_same) | exact size_le (Nat.le_of_ble_eq_true rfl) | exact Nat.le_of_ble_eq_true rfl | exact True.intro | exact Or.inl rfl | exact Or.inr rfl | (show (_ : Prop); omega) | (show (_ : Prop); dsimp only; omega) | exact mulw64 (by omega) (by omega) | exact mulw64 (by (try dsimp only); omega) (by (try dsimp only); omega)))
set_option hygiene false in
local macro_rules | `(tactic| walk_at "fl") => `(tactic| simp only [pu_Whims_numbers, pi_Whims_numbers, pu_Whims_position, pi_Whims_position, pu_Stations_many, pi_Stations_many, pu_Stations_rows, pi_Stations_rows] at hO)
local macro_rules | `(tactic| walk_at "mem") => `(tactic| ((repeat (first | exact List.Mem.head _ | apply List.Mem.tail | fail)); done))
local macro_rules | `(tactic| walk_at "setat") => `(tactic| ((repeat (first | (with_reducible exact At.head) | (with_reducible apply At.tail) | (with_reducible apply At.app) | fail)); done))
set_option hygiene false in
local macro_rules | `(tactic| walk_at "dv") => `(tactic| ((repeat' (first | exact Dv.nil | exact Dv.of (by walk_at "mem") | exact Dv.ints _ | exact Dv1.of (by walk_at "mem") | exact Dv1.int _ | exact Dv1.non | exact Dv1.bl _ | exact Dv1.str _ | (with_reducible apply Dv.cons) | refine Dv1.tup (by walk_at "mem") ?_ | refine Dv1.lst (by walk_at "mem") ?_ | (with_reducible apply Dv.app) | fail)); done))
local macro_rules | `(tactic| walk_at "ft") => `(tactic| (first | (with_reducible exact Ft.refl) | ((with_reducible apply Ft.toL); focus walk_at "dv") | ((with_reducible apply Ft.toS); focus assumption) | (with_reducible apply Ft.lst) | (with_reducible apply Ft.Le) | (with_reducible apply Ft.dK) | (with_reducible apply Ft.De) | (with_reducible apply Ft.ins) | (with_reducible apply Ft.toL) | (with_reducible apply Ft.toS) | (with_reducible apply Ft.toD) | fail))
local macro_rules | `(tactic| walk_at "sbL") => `(tactic| repeat' (first | (with_reducible exact Sb.refl _) | exact Sb.nil | (with_reducible apply Sb.cons) | (with_reducible apply Sb.app) | (with_reducible exact Pk.one) | (with_reducible exact Pk.here) | (with_reducible exact Pk.all) | (with_reducible apply Pk.skip1) | (with_reducible apply Pk.skipB) | (with_reducible apply Sb.skip) | (with_reducible apply Sb.skipB) | ((with_reducible show Ft _ _ _ _); walk_at "ft") | ((with_reducible show (_ : List _) = _); (first | rfl | (simp [List.map_set, List.map_append]; done) | fail)) | fail))
local macro_rules | `(tactic| walk_at "sb") => `(tactic| ((walk_at "sbL"); done))
local macro_rules | `(tactic| walk_at "ps") => `(tactic| ((repeat' (first | (with_reducible exact Ps.refl) | exact Ps.nil | (with_reducible apply Ps.cons) | exact List.Mem.head _ | apply List.Mem.tail | (with_reducible apply Ps.skip) | fail)); done))
set_option hygiene false in
local macro_rules | `(tactic| walk_at "at") => `(tactic| first | assumption | exact Own.raw hO (by walk_at "mem") | exact Own.ptup hO (by walk_at "mem") | exact Own.plst hO (by walk_at "mem") | fail)
set_option hygiene false in
local macro_rules | `(tactic| walk_at "st") => `(tactic| (rw [upd_mkO hO]; generalize e : updX _ _ _ = H1; (first | ((apply Own.cset hO e); (focus walk_at "setat"); (try clear hO e); intro hO) | ((apply Own.cnewT hO e); (focus assumption); (try clear hO e); intro hO) | ((apply Own.cnew hO e); (focus assumption); (try clear hO e); intro hO) | fail)))
set_option hygiene false in
local macro_rules | `(tactic| walk_at "mk") => `(tactic| (intro p1 p2 f1 f2 f3; rw [upd_mkO hO]; generalize e : upd (updX _ _ _) _ _ = H1; apply Own.cmake hO f1 f2 f3 e; (try clear hO e); intro hO))
set_option hygiene false in
local macro_rules | `(tactic| walk_at "own") => `(tactic| (first | ((apply Own.sub hO); (focus walk_at "sb"); (focus walk_at "ps")) | ((apply Own.sub hF); (focus walk_at "sb"); (focus walk_at "ps")) | fail))
set_option hygiene false in
local macro_rules | `(tactic| walk_at "fin") => `(tactic| (refine Own.sub hO ?_ (by walk_at "ps"); walk_at "sbL"))
set_option hygiene false in
local macro_rules | `(tactic| walk_at "g1") => `(tactic| (first
 | ((with_reducible show (_ : Option HO) = _); walk_at "at")
 | ((with_reducible show (_ : Int) < _); omega) | ((with_reducible show (_ : Int) ≤ _); omega)
 | ((with_reducible show (_ : Nat) < _); (first | assumption | exact Nat.le_of_ble_eq_true rfl | exact size_lt (Nat.le_of_ble_eq_true rfl) | omega | (simp; done) | (simp; omega) | fail))
 | ((with_reducible show (_ : Nat) ≤ _); (first | assumption | exact Nat.le_of_ble_eq_true rfl | exact size_le (Nat.le_of_ble_eq_true rfl) | omega | (simp; done) | (simp; omega) | fail))
 | ((with_reducible show Own _ _ _ _); (first | walk_at "own" | (walk_at "st"; walk_at "own") | fail))
 | ((with_reducible show SqL _ _ _ _); (first | assumption | exact SqL.of (by walk_at "at") | fail))
 | ((with_reducible show SqT _ _ _ _); (first | assumption | exact hO.psq (by walk_at "mem") | exact SqT.of (by walk_at "at") | fail))
  | ((with_reducible show Cls _ _); exact Txt.cl_Whims T) | ((with_reducible show NoAttr _ _ _); exact Txt.n_Whims_numbers T) | (with_reducible exact gt_Whims_numbers) | ((with_reducible show NoAttr _ _ _); exact Txt.n_Whims_position T) | (with_reducible exact gt_Whims_position) | ((with_reducible show Cls _ _); exact Txt.cl_Stations T) | ((with_reducible show NoAttr _ _ _); exact Txt.n_Stations_many T) | (with_reducible exact gt_Stations_many) | ((with_reducible show NoAttr _ _ _); exact Txt.n_Stations_rows T) | (with_reducible exact gt_Stations_rows)  | ((with_reducible show V.ref _ = V.ref _); (first | rfl | fail))
 | ((with_reducible show DGet _ _ _ _); (first | exact DGet.ki (by walk_at "at") (by assumption) | exact DGet.kiF (by walk_at "at") (by assumption) | fail))
 | ((with_reducible show DPut _ _ _ _ _); exact DPut.ki (by walk_at "at") (by assumption))
 | ((with_reducible show Rd _ _ _); (first | exact Or.inl (by walk_at "at") | exact Or.inr ⟨_, by walk_at "at"⟩ | fail))
 | ((with_reducible show (∃ _ : List (Key × V), _) ∨ _); refine Or.inl ⟨_, by walk_at "at", ?_⟩)
 | ((with_reducible show Dv _ _ _ _); focus walk_at "dv") | ((with_reducible show Dv1 _ _ _ _); focus walk_at "dv")
 | ((with_reducible show IsD _ _); exact Or.inl ⟨_, Or.inl (by walk_at "at")⟩)
 | ((with_reducible show V.int _ = kV _); exact kV_int)
 | ((with_reducible show Option.isSome _ = true); (first | exact isSome_ofV (by assumption) | assumption | fail))
 | ((with_reducible show SqL _ _ _ _ ∨ SqT _ _ _ _); (first | exact Or.inl (by assumption) | exact Or.inr (by assumption) | exact Or.inl (SqL.of (by walk_at "at")) | exact Or.inr (SqT.of (by walk_at "at")) | fail))
 | ((with_reducible show Dp _ _ _ _); (first | assumption | exact hO.dpL (by walk_at "mem") | exact .lst (SqL.of (by walk_at "at")) (hO.all (by walk_at "dv")) | exact hO.one (by walk_at "dv") | fail))
 | ((with_reducible show TruV _ _ _ _); (first | exact Or.inl ⟨_, SqL.of (by walk_at "at"), rfl⟩ | exact Or.inr (Or.inr ⟨_, by walk_at "at", rfl⟩) | exact Or.inr (Or.inl ⟨_, SqT.of (by walk_at "at"), rfl⟩) | fail))
 | ((with_reducible show RgOk _ _); exact RgOk.of_le (by omega) (by omega) (by omega) (by omega))
 | rfl | (with_reducible assumption) | apply And.intro | apply Exists.intro | refine iteT ?_ | refine iteF ?_
 | (walk_at "st"; (try walk_at "fl"))
 | ((with_reducible show ∀ _ : Addr, _ = none → _); (fail_if_success (with_reducible show ∀ _ : Addr, _ = none → ∃ _ : Nat → Nat → Hp → Prop, _)); intro p fp; walk_at "st")
 | (refine Or.inl ⟨SqL.of (by walk_at "at"), ?_⟩) | (refine Or.inr ⟨SqT.of (by walk_at "at"), ?_⟩) | exact Or.inl ⟨_, by walk_at "at", rfl⟩ | exact Or.inl ⟨rfl, _, SqL.of (by walk_at "at")⟩ | exact tyl_of (by walk_at "at") | exact Or.inl (SqL.of (by walk_at "at")) | exact Or.inr (SqT.of (by walk_at "at")) | exact Or.inl (by walk_at "at") | exact size_le (Nat.le_of_ble_eq_true rfl) | exact Nat.le_of_ble_eq_true rfl | exact True.intro | exact Or.inl rfl | exact Or.inr rfl | (show (_ : Prop); assumption) | (show (_ : Prop); omega) | (show (_ : Prop); dsimp only; omega) | exact mulw64 (by omega) (by omega) | exact mulw64 (by (try dsimp only); omega) (by (try dsimp only); omega) | fail))
local macro_rules | `(tactic| walk_at "go") => `(tactic| repeat walk_at "g1")

section
variable {P : Program} {w : World} {K : PySem.W.Frag} {mg : Str → Option Value} {base : Heap}
def sp_Lplaces (K : PySem.W.Frag) : Sp := fun vs H Q _ => ∃ (a : Addr) (m : Nat) (R : List (Addr × Ob)) (P : List Pf), vs = [.ref a, .int (m : Int)] ∧ m ≤ 10 ∧ Own K H (pt a ++ R) P ∧
  ∀ (p : Addr) (ws : List Int) (H' : Hp), ws.length ≤ m → (∀ z ∈ ws, 0 ≤ z ∧ z < 6) → Own K H' (pt a ++ ((p, .raw (.lst (ws.map V.int))) :: R)) P → Q (.ref p) H'
theorem ok_Lplaces (T : Txt w K mg) : FnOk P w K mg base CX0 2 T.f_Lplaces T.fd_Lplaces ["_law_pot_here", "_law_most"] (sp_Lplaces K) := by
  have G_Ldraw := ok_Ldraw (P := P) (w := w) (base := base) T
  refine T.F_Lplaces.ok sc_Lplaces (fun vs H Q E h => ?_) (fun cdv A outer s H vs Q E hr h => ?_)
  · obtain ⟨a, m, R, P, rfl, hm, hO, k⟩ := h; rfl
  · obtain ⟨a, m, R, P, rfl, hm, hO, k⟩ := h
    refine ⟨_, (pss_cons (ps_set (i := 2) sc_Lplaces.nd rfl (Or.inl rfl) (pe_lst pa_nil))
        (pss_cons (ps_forS PassesOwn.never rfl (pi_range1 rfl T.m_range (pa_cons (pe_call G_Ldraw (hr.mono (by decide)) rfl T.g_Ldraw T.F_Ldraw.kp T.b_Ldraw .nil pass0 (pa_cons (pv 0) (pa_cons (pe_op op_add (pv 1) pe_int) pa_nil))) pa_nil)) (pg_name (i := 3) sc_Lplaces.nd rfl (Or.inl rfl))
          (pss_one (ps_expr (pe_bm PySem.F.plainAttrs_list PySem.F.slot_list_append PySem.F.type_list_append mt_append (pv 2) (pa_cons (pe_call G_Ldraw (hr.mono (by decide)) rfl T.g_Ldraw T.F_Ldraw.kp T.b_Ldraw .nil pass0 (pa_cons (pv 0) (pa_cons pe_int pa_nil))) pa_nil)))))
        (pss_one (ps_ret (pv 2))))), ?_⟩
    clear G_Ldraw
    clear hr
    walk_at "go"
    intro dr H2 dr0 dr1 hO
    have hdr : dr ≤ m := by omega
    walk_at "go"
    refine ⟨for_range (n := dr.toNat) (fun i σ H' => Stop (∃ (p : Addr) (t3 : Option V) (ws : List Int), σ = [some (.ref a), some (.int (m : Int)), some (.ref p), t3] ∧ ws.length = i ∧ (∀ z ∈ ws, 0 ≤ z ∧ z < 6) ∧ Own K H' (pt a ++ ((p, .raw (.lst (ws.map V.int))) :: R)) P)) ⟨⟨_, none, [], rfl, rfl, (fun _ h => nomatch h), ?_⟩⟩ (fun i σ H' hi h => ?_) (fun σ H' h => ?_)⟩
    · exact hO.sub (by walk_at "sb") Ps.refl
    · clear hO
      obtain ⟨p, t3, ws, rfl, hl, hb, hO⟩ := h.h
      clear h
      have sz : (ws.map V.int).length < sizeLine := size_lt (by simp; omega)
      walk_at "go"
      intro z H3 z0 z1 hO
      walk_at "go"
      refine ⟨⟨p, _, ws ++ [z], rfl, by simp; omega, fun y hy => ?_, ?_⟩⟩
      · rcases List.mem_append.mp hy with hy | hy
        · exact hb y hy
        · simp at hy; subst hy; exact ⟨z0, z1⟩
      · rw [List.map_append]
        walk_at "fin"
    · clear hO
      obtain ⟨p, t3, ws, rfl, hl, hb, hO⟩ := h.h
      clear h
      walk_at "go"
      exact k p ws _ (by omega) hb hO
def sp_Ldue (K : PySem.W.Frag) : Sp := fun vs H Q _ => ∃ (o nl : Addr) (ov : V) (tw : Int) (t : Nat) (ws : List Int) (rs : List SR) (R : List (Addr × Ob)) (P : List Pf), vs = [.ref o, ov, .ref nl, .int (t : Int), .int tw] ∧ Own K H ((o, .D (ik (sD rs))) :: (nl, .raw (.lst (ws.map V.int))) :: R) P ∧ Sw rs ∧ (ov = .non ∨ ∃ o : Int, ov = .int o ∧ 0 ≤ o) ∧ (∀ z : Int, ov = .int z → ∀ j ∈ skeys rs, z ≤ j) ∧ ws.length ≤ 200 ∧
  ∀ (q : Addr) (H' : Hp) (P' : List Pf), Ps P P' → Pf.tup q [(chv (rdy rs) ov ws t tw).1, .int ((chv (rdy rs) ov ws t tw).2 : Int)] ∈ P' → Own K H' ((o, .D (ik (sD rs))) :: (nl, .raw (.lst (ws.map V.int))) :: R) P' → Q (.ref q) H'
theorem ok_Ldue (T : Txt w K mg) : FnOk P w K mg base CX0 1 T.f_Ldue T.fd_Ldue ["_law_own", "_law_oldest", "_law_numbers", "_law_taken", "_law_twist"] (sp_Ldue K) := by
  refine T.F_Ldue.ok sc_Ldue (fun vs H Q E h => ?_) (fun cdv A outer s H vs Q E hr h => ?_)
  · obtain ⟨o, nl, ov, tw, t, ws, rs, R, P, rfl, hO, hL, hov, hmin, hws, k⟩ := h; rfl
  · obtain ⟨o, nl, ov, tw, t, ws, rs, R, P, rfl, hO, hL, hov, hmin, hws, k⟩ := h
    refine ⟨_, (pss_cons (ps_setLc (i := 5) (own := [("_law_number", 7)]) (g := gName 7) (tt := (tTest (tOp (rEqD K) (tOp (rIxT K) (tDGet (tVar 0) (tVar 7)) (tC (.int 1))) (tLst tNil)))) rfl sc_Ldue.nd rfl rfl (sw_true rfl rfl rfl (by decide +kernel)) (pi_list (pe_callB (call_sortedDI rfl) (by rfl) T.m_sorted (by decide +kernel) (pa_cons (pv 0) pa_nil))) (blkOk_by (N := ["_law_own", "_law_oldest", "_law_numbers", "_law_taken", "_law_twist", "_law_ready", "_law_whim", "_law_number"]) (sc := defScope s_Ldue) (by decide +kernel)) (fun _ _ _ _ _ => pg_name (i := 7) sc_Ldue.nd rfl (Or.inl rfl)) (fun _ _ _ _ _ => pts_one (pt_cmpR (op_eqD hr.units) (pe_ix ix_tup (pe_dget (hu_of hr) (pv 0) (pv 7) (fun _ _ => rfl)) pe_int (fun _ _ => rfl)) (pe_lst pa_nil) (nomark _))) (fun _ _ _ _ _ => (pv 7)))
        (pss_cons (ps_if (pt_cmpR (op_eqD hr.units) (pv 5) (pe_lst pa_nil) (nomark _))
          (pss_one (ps_ret (pe_tup (pa_cons pe_non (pa_cons pe_int pa_nil)))))
          pss_nil)
        (pss_cons (ps_if (PW.pt (pw_or (pt_cmpR op_eq (pv 4) pe_int (nomark _)) (pw_or1 (pt_cmpR op_in_seq (pv 1) (pv 5) (by rfl)))))
          (pss_one (ps_ret (pe_tup (pa_cons (pe_ix ix_list (pv 5) pe_int (fun _ _ => rfl)) (pa_cons pe_int pa_nil)))))
          pss_nil)
        (pss_cons (ps_set (i := 6) sc_Ldue.nd rfl (Or.inl rfl) (pe_ifExp (pt_cmpR op_lt (pv 3) (pe_callB call_len_list (by rfl) T.m_len (by decide +kernel) (pa_cons (pv 2) pa_nil)) (nomark _)) (pe_ix ix_list (pv 2) (pv 3) (fun _ _ => rfl)) pe_int))
        (pss_one (ps_ret (pe_tup (pa_cons (pe_ix ix_list (pv 5) (pe_op op_mod (pe_callTy call_int1i (by rfl) T.m_int (by decide +kernel) (pa_cons (pv 6) pa_nil)) (pe_callB call_len_list (by rfl) T.m_len (by decide +kernel) (pa_cons (pv 5) pa_nil))) (fun _ _ => rfl)) (pa_cons pe_int pa_nil))))))))), ?_⟩
    clear hr
    have hl40 := hL.le
    obtain ⟨kvs, hk, o1⟩ := hO.openD (a := o) (by walk_at "mem")
    replace hO := o1 _ (by walk_at "setat")
    clear o1
    have ek := ik_keys hk
    rw [sD_keys] at ek
    have hz64 : (skeys rs).length < 64 := by rw [skeys, List.length_map]; omega
    have hzz : (srt (skeys rs)).length ≤ 10000 := by rw [srt_len]; omega
    walk_at "go"
    intro ys p hp hs fp
    obtain rfl := srt_of hp hs
    walk_at "go"
    intro D hD
    have S0 : SeqAt.shaped (.list []) = true := by decide
    refine lc_siftW (srt (skeys rs)) V.int (fun n => decide (wf rs n = [])) (walk_ints (K := K) (a := p)) hO hD hzz (fun H L' P' s t h => SqL.of (h.raw (s _ (by walk_at "mem")))) (fun i n v H9 H' P' ys Qn Qy hn hv sp hO kn ky => ?_) (fun H5 P5 sp5 hO => ?_)
    · obtain ⟨rfl, hv⟩ := hv
      rw [List.getElem?_map, hn] at hv
      injection hv with hv
      subst hv
      have hm : n ∈ skeys rs := srt_mem.mp (List.mem_of_getElem? hn)
      obtain ⟨r, hf, hr, e⟩ := sfind hm
      have vd := s_val hf
      obtain ⟨v, hv⟩ := valV_of hk vd
      have dv := Dv.val (K := K) (P := P') (Dv.of (sp _ List.mem_cons_self)) hk hv vd
      have el : wf rs n = r.2.2 := by unfold wf; rw [hf]
      obtain ⟨t, a, b, rfl, hO⟩ := hO.opn2 dv
      have a1 := at1 a b []
      have S3 : SeqAt.shaped (lD r.2.2) = true := sh_ints r.2.2
      walk_at "go"
      rw [el] at kn ky
      cases hw : r.2.2 with
      | nil =>
        rw [hw] at ky
        refine iteT ?_
        walk_at "go"
        refine ky (decide_eq_true rfl) _ _ ?_ (hO.sub (Sb.skip (Sb.refl _)) Ps.refl)
        walk_at "ps"
      | cons c l =>
        rw [hw] at kn
        refine iteF ?_
        refine kn (decide_eq_false (fun e => nomatch e)) _ _ ?_ (hO.sub (Sb.skip (Sb.refl _)) Ps.refl)
        walk_at "ps"
    · rw [show (srt (skeys rs)).filter (fun n => decide (wf rs n = [])) = rdy rs from rfl] at hO
      replace hO : Own K H5 ((D, .raw (.lst ((rdy rs).map V.int))) :: (o, .D (ik (sD rs))) :: (nl, .raw (.lst (ws.map V.int))) :: R) P5 := Own.sub (hO.dv (Dv.of (sp5 _ List.mem_cons_self))) (by
        walk_at "sbL"
        · exact hk
        · exact Dv.of (by walk_at "mem")) (Ps.skip Ps.refl)
      replace sp5 : Ps P P5 := fun q hq => sp5 q (List.mem_cons_of_mem _ hq)
      clear hk ek hp hs fp
      obtain ⟨g, hg⟩ : ∃ g, g = rdy rs := ⟨_, rfl⟩
      rw [← hg] at hO k
      have S1 := sh_ints g
      have hfl := flat_ints g
      have hfo : flatV ov = true := by rcases hov with rfl | ⟨z, rfl, _⟩ <;> rfl
      cases g with
      | nil =>
        walk_at "go"
        refine k _ _ _ ?_ (List.Mem.head _) (hO.sub (Sb.skip (Sb.skip (Sb.refl _))) Ps.refl)
        exact Ps.skip sp5
      | cons r l =>
        have ha : atI (List.map V.int (r :: l)) 0 = some (.int r) := at0 _ _
        have hpos : (0 : Int) < ((List.map V.int (r :: l)).length : Int) := by simp
        walk_at "go"
        refine iteD (fun h => ?_) (fun h => ?_)
        · have h0 : tw = 0 := V.int.inj h
          have ec : chv (r :: l) ov ws t tw = (.int r, 0) := by simp only [chv]; rw [if_pos h0]
          rw [ec] at k
          walk_at "go"
          refine k _ _ _ ?_ (List.Mem.head _) (hO.sub (Sb.skip (Sb.skip (Sb.refl _))) Ps.refl)
          exact Ps.skip sp5
        · have h0 : ¬ tw = 0 := fun e => h (congrArg V.int e)
          walk_at "go"
          cases hin : inV ov (List.map V.int (r :: l)) with
          | true =>
            have er : ov = .int r := by
              rcases hov with rfl | ⟨z, rfl, _⟩
              · rw [inV_non] at hin; exact nomatch hin
              · rw [inV_ints, decide_eq_true_iff] at hin
                have hpw : (r :: l).Pairwise (· ≤ ·) := by rw [hg]; exact (srt_pw _).filter _
                have hrk : r ∈ skeys rs := srt_mem.mp (List.mem_filter.mp (show r ∈ rdy rs by rw [← hg]; exact List.mem_cons_self)).1
                have h1 := hmin z rfl r hrk
                rcases List.mem_cons.mp hin with e | e
                · rw [e]
                · have h2 := (List.pairwise_cons.mp hpw).1 z e
                  rw [show z = r by omega]
            have ec : chv (r :: l) ov ws t tw = (.int r, 0) := by simp only [chv]; rw [if_neg h0, if_pos hin, er]
            rw [ec] at k
            walk_at "go"
            refine k _ _ _ ?_ (List.Mem.head _) (hO.sub (Sb.skip (Sb.skip (Sb.refl _))) Ps.refl)
            exact Ps.skip sp5
          | false =>
            have ec : chv (r :: l) ov ws t tw = (.int ((r :: l).getD (wdue ws t ((l.length : Int) + 1)).toNat 0), 1) := by simp only [chv]; rw [if_neg h0, if_neg (by rw [hin]; exact fun z => nomatch z)]
            have hlen1 : ((List.map V.int (r :: l)).length : Int) = (l.length : Int) + 1 := by simp
            have done : ∀ w : Int, w = ws.getD t 0 → atI (List.map V.int (r :: l)) (w % ((List.map V.int (r :: l)).length : Int)) = some (.int ((r :: l).getD (wdue ws t ((l.length : Int) + 1)).toNat 0)) := fun w hw => by
              rw [hlen1, hw]
              show atI _ (wdue ws t ((l.length : Int) + 1)) = _
              obtain ⟨wd, hwd⟩ : ∃ wd, wd = wdue ws t ((l.length : Int) + 1) := ⟨_, rfl⟩
              have hwb : 0 ≤ wd ∧ wd < (l.length : Int) + 1 := by rw [hwd]; exact ⟨Int.emod_nonneg _ (by omega), Int.emod_lt_of_pos _ (by omega)⟩
              rw [← hwd]
              have h2 : wd.toNat < (r :: l).length := by simp; omega
              have h3 := atI_nat (xs := List.map V.int (r :: l)) (j := wd.toNat) (v := .int ((r :: l).getD wd.toNat 0)) (by rw [List.getElem?_map, List.getElem?_eq_getElem h2, List.getD_eq_getElem?_getD, List.getElem?_eq_getElem h2]; rfl)
              rwa [Int.toNat_of_nonneg hwb.1] at h3
            rw [ec] at k
            walk_at "go"
            refine iteD (fun h2 => ?_) (fun h2 => ?_)
            · have ht : t < ws.length := by simpa using h2
              have hgt : atI (ws.map V.int) (t : Int) = some (.int (ws.getD t 0)) := atI_nat (by rw [List.getElem?_map, List.getElem?_eq_getElem ht, List.getD_eq_getElem?_getD, List.getElem?_eq_getElem ht]; rfl)
              have dn := done _ rfl
              walk_at "go"
              refine k _ _ _ ?_ (List.Mem.head _) (hO.sub (Sb.skip (Sb.skip (Sb.refl _))) Ps.refl)
              exact Ps.skip sp5
            · have ht : ws.length ≤ t := by simp at h2; omega
              have dn := done 0 (by rw [List.getD_eq_getElem?_getD, List.getElem?_eq_none ht]; rfl)
              walk_at "go"
              refine k _ _ _ ?_ (List.Mem.head _) (hO.sub (Sb.skip (Sb.skip (Sb.refl _))) Ps.refl)
              exact Ps.skip sp5
end
end K72

set_option Elab.async false
set_option linter.all false
set_option maxRecDepth 100000
set_option maxHeartbeats 8000000

namespace K72
open PySem PySem.Spec PyProof.Rows L2 Hx 
local macro_rules | `(tactic| walk_at "sm") => `(tactic| repeat' (first | assumption | apply Hx.Same.upd | exact L2.Same.refl _ | apply same_trans'))
local macro_rules | `(tactic| walk_at "hp") => `(tactic| repeat' (first | assumption | exact upd_same | apply old_upd | apply same_at))
local macro_rules | `(tactic| walk_at "rd") => `(tactic| repeat' (first | rfl | apply Exists.intro | apply And.intro | refine iteT ?_ | refine iteF ?_ | exact upd_same | exact SqL.of (by assumption) | exact SqL.of upd_same | exact SqT.of upd_same | exact SqT.of (by assumption) | ((with_reducible show (_ : Int) < _); omega) | ((with_reducible show (_ : Int) ≤ _); omega) | (show (_ : Prop); assumption) | exact Or.inl ⟨_, by assumption, rfl⟩ | exact Or.inl ⟨rfl, _, SqL.of (by assumption)⟩ | exact Or.inl ⟨rfl, _, SqL.of upd_same⟩ | apply old_upd | apply Hx.SqL.new | apply tyl_new | apply Pot.new | exact same_at (by assumption) (by assumption) | exact Or.inl (SqL.of (by assumption)) | exact Or.inl (by assumption) | exact Or.inl (SqL.of upd_same) | exact size_le (Nat.le_of_ble_eq_true rfl) | exact Nat.le_of_ble_eq_true rfl | exact True.intro | exact Or.inl rfl | exact Or.inr rfl | (show (_ : Prop); omega) | (show (_ : Prop); dsimp only; omega) | exact mulw64 (by omega) (by omega) | exact mulw64 (by (try dsimp only); omega) (by (try dsimp only); omega)))
set_option hygiene false in
local macro_rules | `(tactic| walk_at "fl") => `(tactic| simp only [pu_Whims_numbers, pi_Whims_numbers, pu_Whims_position, pi_Whims_position, pu_Stations_many, pi_Stations_many, pu_Stations_rows, pi_Stations_rows] at hO)
local macro_rules | `(tactic| walk_at "mem") => `(tactic| ((repeat (first | exact List.Mem.head _ | apply List.Mem.tail | fail)); done))
local macro_rules | `(tactic| walk_at "setat") => `(tactic| ((repeat (first | (with_reducible exact At.head) | (with_reducible apply At.tail) | (with_reducible apply At.app) | fail)); done))
set_option hygiene false in
local macro_rules | `(tactic| walk_at "dv") => `(tactic| ((repeat' (first | exact Dv.nil | exact Dv.of (by walk_at "mem") | exact Dv.ints _ | exact Dv1.of (by walk_at "mem") | exact Dv1.int _ | exact Dv1.non | exact Dv1.bl _ | exact Dv1.str _ | (with_reducible apply Dv.cons) | refine Dv1.tup (by walk_at "mem") ?_ | refine Dv1.lst (by walk_at "mem") ?_ | (with_reducible apply Dv.app) | fail)); done))
local macro_rules | `(tactic| walk_at "ft") => `(tactic| (first | (with_reducible exact Ft.refl) | ((with_reducible apply Ft.toL); focus walk_at "dv") | ((with_reducible apply Ft.toS); focus assumption) | (with_reducible apply Ft.lst) | (with_reducible apply Ft.Le) | (with_reducible apply Ft.dK) | (with_reducible apply Ft.De) | (with_reducible apply Ft.ins) | (with_reducible apply Ft.toL) | (with_reducible apply Ft.toS) | (with_reducible apply Ft.toD) | fail))
local macro_rules | `(tactic| walk_at "sbL") => `(tactic| repeat' (first | (with_reducible exact Sb.refl _) | exact Sb.nil | (with_reducible apply Sb.cons) | (with_reducible apply Sb.app) | (with_reducible exact Pk.one) | (with_reducible exact Pk.here) | (with_reducible exact Pk.all) | (with_reducible apply Pk.skip1) | (with_reducible apply Pk.skipB) | (with_reducible apply Sb.skip) | (with_reducible apply Sb.skipB) | ((with_reducible show Ft _ _ _ _); walk_at "ft") | ((with_reducible show (_ : List _) = _); (first | rfl | (simp [List.map_set, List.map_append]; done) | fail)) | fail))
local macro_rules | `(tactic| walk_at "sb") => `(tactic| ((walk_at "sbL"); done))
local macro_rules | `(tactic| walk_at "ps") => `(tactic| ((repeat' (first | (with_reducible exact Ps.refl) | exact Ps.nil | (with_reducible apply Ps.cons) | exact List.Mem.head _ | apply List.Mem.tail | (with_reducible apply Ps.skip) | fail)); done))
set_option hygiene false in
local macro_rules | `(tactic| walk_at "at") => `(tactic| first | assumption | exact Own.raw hO (by walk_at "mem") | exact Own.ptup hO (by walk_at "mem") | exact Own.plst hO (by walk_at "mem") | fail)
set_option hygiene false in
local macro_rules | `(tactic| walk_at "st") => `(tactic| (rw [upd_mkO hO]; generalize e : updX _ _ _ = H1; (first | ((apply Own.cset hO e); (focus walk_at "setat"); (try clear hO e); intro hO) | ((apply Own.cnewT hO e); (focus assumption); (try clear hO e); intro hO) | ((apply Own.cnew hO e); (focus assumption); (try clear hO e); intro hO) | fail)))
set_option hygiene false in
local macro_rules | `(tactic| walk_at "mk") => `(tactic| (intro p1 p2 f1 f2 f3; rw [upd_mkO hO]; generalize e : upd (updX _ _ _) _ _ = H1; apply Own.cmake hO f1 f2 f3 e; (try clear hO e); intro hO))
set_option hygiene false in
local macro_rules | `(tactic| walk_at "own") => `(tactic| (first | ((apply Own.sub hO); (focus walk_at "sb"); (focus walk_at "ps")) | ((apply Own.sub hF); (focus walk_at "sb"); (focus walk_at "ps")) | fail))
set_option hygiene false in
local macro_rules | `(tactic| walk_at "fin") => `(tactic| (refine Own.sub hO ?_ (by walk_at "ps"); walk_at "sbL"))
set_option hygiene false in
local macro_rules | `(tactic| walk_at "g1") => `(tactic| (first
 | ((with_reducible show (_ : Option HO) = _); walk_at "at")
 | ((with_reducible show (_ : Int) < _); omega) | ((with_reducible show (_ : Int) ≤ _); omega)
 | ((with_reducible show (_ : Nat) < _); (first | assumption | exact Nat.le_of_ble_eq_true rfl | exact size_lt (Nat.le_of_ble_eq_true rfl) | omega | (simp; done) | (simp; omega) | fail))
 | ((with_reducible show (_ : Nat) ≤ _); (first | assumption | exact Nat.le_of_ble_eq_true rfl | exact size_le (Nat.le_of_ble_eq_true rfl) | omega | (simp; done) | (simp; omega) | fail))
 | ((with_reducible show Own _ _ _ _); (first | walk_at "own" | (walk_at "st"; walk_at "own") | fail))
 | ((with_reducible show SqL _ _ _ _); (first | assumption | exact SqL.of (by walk_at "at") | fail))
 | ((with_reducible show SqT _ _ _ _); (first | assumption | exact hO.psq (by walk_at "mem") | exact SqT.of (by walk_at "at") | fail))
  | ((with_reducible show Cls _ _); exact Txt.cl_Whims T) | ((with_reducible show NoAttr _ _ _); exact Txt.n_Whims_numbers T) | (with_reducible exact gt_Whims_numbers) | ((with_reducible show NoAttr _ _ _); exact Txt.n_Whims_position T) | (with_reducible exact gt_Whims_position) | ((with_reducible show Cls _ _); exact Txt.cl_Stations T) | ((with_reducible show NoAttr _ _ _); exact Txt.n_Stations_many T) | (with_reducible exact gt_Stations_many) | ((with_reducible show NoAttr _ _ _); exact Txt.n_Stations_rows T) | (with_reducible exact gt_Stations_rows)  | ((with_reducible show V.ref _ = V.ref _); (first | rfl | fail))
 | ((with_reducible show DGet _ _ _ _); (first | exact DGet.ki (by walk_at "at") (by assumption) | exact DGet.kiF (by walk_at "at") (by assumption) | fail))
 | ((with_reducible show DPut _ _ _ _ _); exact DPut.ki (by walk_at "at") (by assumption))
 | ((with_reducible show Rd _ _ _); (first | exact Or.inl (by walk_at "at") | exact Or.inr ⟨_, by walk_at "at"⟩ | fail))
 | ((with_reducible show (∃ _ : List (Key × V), _) ∨ _); refine Or.inl ⟨_, by walk_at "at", ?_⟩)
 | ((with_reducible show Dv _ _ _ _); focus walk_at "dv") | ((with_reducible show Dv1 _ _ _ _); focus walk_at "dv")
 | ((with_reducible show IsD _ _); exact Or.inl ⟨_, Or.inl (by walk_at "at")⟩)
 | ((with_reducible show V.int _ = kV _); exact kV_int)
 | ((with_reducible show Option.isSome _ = true); (first | exact isSome_ofV (by assumption) | assumption | fail))
 | ((with_reducible show SqL _ _ _ _ ∨ SqT _ _ _ _); (first | exact Or.inl (by assumption) | exact Or.inr (by assumption) | exact Or.inl (SqL.of (by walk_at "at")) | exact Or.inr (SqT.of (by walk_at "at")) | fail))
 | ((with_reducible show Dp _ _ _ _); (first | assumption | exact hO.dpL (by walk_at "mem") | exact .lst (SqL.of (by walk_at "at")) (hO.all (by walk_at "dv")) | exact hO.one (by walk_at "dv") | fail))
 | ((with_reducible show TruV _ _ _ _); (first | exact Or.inl ⟨_, SqL.of (by walk_at "at"), rfl⟩ | exact Or.inr (Or.inr ⟨_, by walk_at "at", rfl⟩) | exact Or.inr (Or.inl ⟨_, SqT.of (by walk_at "at"), rfl⟩) | fail))
 | ((with_reducible show RgOk _ _); exact RgOk.of_le (by omega) (by omega) (by omega) (by omega))
 | rfl | (with_reducible assumption) | apply And.intro | apply Exists.intro | refine iteT ?_ | refine iteF ?_
 | (walk_at "st"; (try walk_at "fl"))
 | ((with_reducible show ∀ _ : Addr, _ = none → _); (fail_if_success (with_reducible show ∀ _ : Addr, _ = none → ∃ _ : Nat → Nat → Hp → Prop, _)); intro p fp; walk_at "st")
 | (refine Or.inl ⟨SqL.of (by walk_at "at"), ?_⟩) | (refine Or.inr ⟨SqT.of (by walk_at "at"), ?_⟩) | exact Or.inl ⟨_, by walk_at "at", rfl⟩ | exact Or.inl ⟨rfl, _, SqL.of (by walk_at "at")⟩ | exact tyl_of (by walk_at "at") | exact Or.inl (SqL.of (by walk_at "at")) | exact Or.inr (SqT.of (by walk_at "at")) | exact Or.inl (by walk_at "at") | exact size_le (Nat.le_of_ble_eq_true rfl) | exact Nat.le_of_ble_eq_true rfl | exact True.intro | exact Or.inl rfl | exact Or.inr rfl | (show (_ : Prop); assumption) | (show (_ : Prop); omega) | (show (_ : Prop); dsimp only; omega) | exact mulw64 (by omega) (by omega) | exact mulw64 (by (try dsimp only); omega) (by (try dsimp only); omega) | fail))
local macro_rules | `(tactic| walk_at "go") => `(tactic| repeat walk_at "g1")

section
variable {P : Program} {w : World} {K : PySem.W.Frag} {mg : Str → Option Value} {base : Heap}
def sp_Lch (K : PySem.W.Frag) (C CW : Addr) : Sp := fun vs H Q _ => ∃ (a x dx d o wx dw wn nl : Addr) (m : Int) (t : Nat) (ws : List Int) (rs : List SR) (R : List (Addr × Ob)) (P : List Pf), vs = [.ref a, .ref x, .ref o, .ref wx, .ref nl] ∧
  Own K H (pt a ++ (stn C x dx d m rs ++ ((o, .D (ik (sD rs))) :: (wm CW wx dw wn ws t ++ ((nl, .raw (.lst (ws.map V.int))) :: R))))) P ∧ Sw rs ∧ ws.length ≤ 200 ∧
  ∀ (t' : Nat) (H' : Hp) (P' : List Pf), Ps P P' → Own K H' (pt a ++ (stn C x dx d m rs ++ ((o, .D (ik (sD rs))) :: (wm CW wx dw wn ws t' ++ ((nl, .raw (.lst (ws.map V.int))) :: R))))) P' → Q (.bl true) H'
theorem ok_Lchosen_right (T : Txt w K mg) : FnOk P w K mg base CX0 5 T.f_Lchosen_right T.fd_Lchosen_right ["_law_pot_here", "_law_rows", "_law_own", "_law_whims", "_law_numbers"] (sp_Lch K T.C_Stations T.C_Whims) := by
  have G_Ldraw := ok_Ldraw (P := P) (w := w) (base := base) T
  have G_Whims_taken := ok_Whims_taken (P := P) (w := w) (base := base) T
  have G_Lpick := ok_Lpick (P := P) (w := w) (base := base) T
  have G_Ldue := ok_Ldue (P := P) (w := w) (base := base) T
  have G_Stations_chosen := ok_Stations_chosen (P := P) (w := w) (base := base) T
  refine T.F_Lchosen_right.ok sc_Lchosen_right (fun vs H Q E h => ?_) (fun cdv A outer s H vs Q E hr h => ?_)
  · obtain ⟨a, x, dx, d, o, wx, dw, wn, nl, m, t, ws, rs, R, P, rfl, hO, hL, hws, k⟩ := h; rfl
  · obtain ⟨a, x, dx, d, o, wx, dw, wn, nl, m, t, ws, rs, R, P, rfl, hO, hL, hws, k⟩ := h
    refine ⟨_, (pss_cons (ps_par (i := 5) (j := 6) rfl sc_Lchosen_right.nd rfl rfl (by decide) rfl rfl (pa_cons (pe_call G_Ldraw (hr.mono (by decide)) rfl T.g_Ldraw T.F_Ldraw.kp T.b_Ldraw .nil pass0 (pa_cons (pv 0) (pa_cons pe_int pa_nil))) (pa_cons (pe_prop (pv 3) T.cl_Whims T.p_Whims_taken G_Whims_taken (hr.mono (by decide)) T.b_Whims_taken .nil pass0 rfl) pa_nil)) (by rfl))
        (pss_cons (ps_set (i := 7) sc_Lchosen_right.nd rfl (Or.inl rfl) (pe_call G_Lpick (hr.mono (by decide)) rfl T.g_Lpick T.F_Lpick.kp T.b_Lpick .nil pass0 (pa_cons (pv 0) (pa_cons (pe_op op_cat (pe_lst (pa_cons pe_non (pa_cons pe_int (pa_cons pe_int pa_nil)))) (pe_callB (call_sortedDI rfl) (by rfl) T.m_sorted (by decide +kernel) (pa_cons (pv 2) pa_nil))) pa_nil))))
        (pss_cons (ps_mid (ps_if (PW.pt (pw_and (pt_cmpR (op_neE hr.units) (pv 2) pe_dnewK (nomark _)) (pw_and (pt_cmpR op_notN (pv 7) pe_non (nomark _)) (pw_and1 (pt_cmpR op_lt (pe_callB (cr_minK rfl) (by rfl) T.m_min (by decide +kernel) (pa_cons (pv 2) pa_nil)) (pv 7) (nomark _))))))
          (pss_one (ps_set (i := 7) sc_Lchosen_right.nd rfl (Or.inl rfl) (pe_callB (cr_minK rfl) (by rfl) T.m_min (by decide +kernel) (pa_cons (pv 2) pa_nil))))
          pss_nil))
        (pss_cons (ps_asg (pe_call G_Ldue (hr.mono (by decide)) rfl T.g_Ldue T.F_Ldue.kp T.b_Ldue .nil pass0 (pa_cons (pv 2) (pa_cons (pv 7) (pa_cons (pv 4) (pa_cons (pv 6) (pa_cons (pv 5) pa_nil)))))) (pg_tup rfl (pgs_cons (pg_name (i := 8) sc_Lchosen_right.nd rfl (Or.inl rfl)) (pgs_cons (pg_name (i := 9) sc_Lchosen_right.nd rfl (Or.inl rfl)) pgs_nil))))
        (pss_cons (ps_if (pt_cmpR op_ne (pe_meth (pv 1) T.cl_Stations T.me_Stations_chosen G_Stations_chosen (hr.mono (by decide)) T.b_Stations_chosen .nil pass0 (pa_cons (pv 7) (pa_cons (pv 3) (pa_cons (pv 5) pa_nil)))) (pv 8) (nomark _))
          (pss_one (ps_ret pe_bl))
          pss_nil)
        (pss_one (ps_ret (pe_cmpR op_eq (pe_prop (pv 3) T.cl_Whims T.p_Whims_taken G_Whims_taken (hr.mono (by decide)) T.b_Whims_taken .nil pass0 rfl) (pe_op op_add (pv 6) (pv 9)) (nomark _))))))))), ?_⟩
    clear G_Ldraw G_Whims_taken G_Lpick G_Ldue G_Stations_chosen
    clear hr
    have hl40 := hL.le
    have hl1000 : rs.length ≤ 1000 := by omega
    have hz64 : (skeys rs).length < 64 := by rw [skeys, List.length_map]; omega
    walk_at "go"
    intro tw H2 tw0 tw1 hO
    obtain ⟨kvs, hk, o1⟩ := hO.openD (a := o) (by walk_at "mem")
    replace hO := o1 _ (by walk_at "setat")
    clear o1
    have ek := ik_keys hk
    rw [sD_keys] at ek
    walk_at "go"
    intro ys p hp hs fp
    obtain rfl := srt_of hp hs
    have hcat : [V.non, V.int 0, V.int 3].length + ((srt (skeys rs)).map V.int).length ≤ sizeLine := size_le (by rw [List.length_map, srt_len]; simp; omega)
    have hp2 : ([V.non, V.int 0, V.int 3] ++ (srt (skeys rs)).map V.int).length ≤ 1000 := by rw [List.length_append, List.length_map, srt_len]; simp; omega
    have hp1 : 0 < ([V.non, V.int 0, V.int 3] ++ (srt (skeys rs)).map V.int).length := by simp
    walk_at "go"
    intro j v H3 hj hO
    have hv : v = .non ∨ ∃ z : Int, v = .int z ∧ 0 ≤ z := by
      rcases List.mem_append.mp (List.mem_of_getElem? hj) with h | h
      · simp only [List.mem_cons, List.not_mem_nil, or_false] at h
        rcases h with rfl | rfl | rfl
        · exact .inl rfl
        · exact .inr ⟨0, rfl, by decide⟩
        · exact .inr ⟨3, rfl, by decide⟩
      · obtain ⟨z, hz, rfl⟩ := List.mem_map.mp h
        obtain ⟨r, hr, rfl⟩ := List.mem_map.mp (srt_mem.mp hz)
        exact .inr ⟨_, rfl, hL.nn r hr⟩
    replace hO := Own.sub (L' := pt a ++ (stn T.C_Stations x dx d m rs ++ ((o, .raw (.dK kvs)) :: (wm T.C_Whims wx dw wn ws t ++ ((nl, .raw (.lst (ws.map V.int))) :: R))))) hO (by walk_at "sb") Ps.refl
    walk_at "go"
    refine Stop.mk ⟨fun σ' H' => Stop (∃ (ov : V) (P' : List Pf), σ' = [some (.ref a), some (.ref x), some (.ref o), some (.ref wx), some (.ref nl), some (.int tw), some (.int (t : Int)), some ov, none, none] ∧ (ov = .non ∨ ∃ z : Int, ov = .int z ∧ 0 ≤ z) ∧ (∀ z : Int, ov = .int z → ∀ j ∈ skeys rs, z ≤ j) ∧ Ps P P' ∧
      Own K H' (pt a ++ (stn T.C_Stations x dx d m rs ++ ((o, .D (ik (sD rs))) :: (wm T.C_Whims wx dw wn ws t ++ ((nl, .raw (.lst (ws.map V.int))) :: R))))) P'), ?_, fun σ' H9 hM => ?_⟩
    · have close : ∀ (H5 : Hp) (L5 : List (Addr × Ob)), Own K H5 (L5 ++ (pt a ++ (stn T.C_Stations x dx d m rs ++ ((o, .raw (.dK kvs)) :: (wm T.C_Whims wx dw wn ws t ++ ((nl, .raw (.lst (ws.map V.int))) :: R)))))) (.dp (kvs.map Prod.snd) ((ik (sD rs)).map Prod.snd) :: P) →
          Own K H5 (pt a ++ (stn T.C_Stations x dx d m rs ++ ((o, .D (ik (sD rs))) :: (wm T.C_Whims wx dw wn ws t ++ ((nl, .raw (.lst (ws.map V.int))) :: R))))) P := fun H5 L5 hO => by
        refine Own.sub hO ?_ (Ps.skip Ps.refl)
        refine Sb.skipB ?_
        walk_at "sbL"
        · exact hk
        · exact Dv.of (by walk_at "mem")
      have hkl := congrArg List.length ek
      simp only [List.length_map] at hkl
      walk_at "go"
      refine fun pe fe => ?_
      walk_at "st"
      walk_at "go"
      cases hkv : kvs.isEmpty with
      | true =>
        have hnil : skeys rs = [] := by
          rw [List.isEmpty_iff] at hkv
          rw [hkv] at hkl
          exact List.eq_nil_of_length_eq_zero hkl.symm
        walk_at "go"
        refine ⟨⟨v, P, rfl, hv, (fun z _ j hj => by rw [hnil] at hj; exact nomatch hj), Ps.refl, close _ [_] hO⟩⟩
      | false =>
        have hne : skeys rs ≠ [] := fun e => by
          rw [e] at hkl
          rw [List.eq_nil_of_length_eq_zero hkl] at hkv
          exact nomatch hkv
        rcases hv with rfl | ⟨z, rfl, hz⟩
        · walk_at "go"
          refine ⟨⟨.non, P, rfl, .inl rfl, (fun z hz => nomatch hz), Ps.refl, close _ [_] hO⟩⟩
        · walk_at "go"
          intro mn hmn hmin
          walk_at "go"
          refine iteD (fun h => ?_) (fun h => ?_)
          · walk_at "go"
            intro mn2 hmn2 hmin2
            walk_at "go"
            obtain ⟨r, hr, er⟩ := List.mem_map.mp hmn2
            refine ⟨⟨.int mn2, P, rfl, .inr ⟨mn2, rfl, er ▸ hL.nn r hr⟩, (fun z e j hj => by cases e; exact hmin2 j hj), Ps.refl, close _ [_] hO⟩⟩
          · walk_at "go"
            refine ⟨⟨.int z, P, rfl, .inr ⟨z, rfl, hz⟩, (fun z' e j hj => by cases e; have := hmin j hj; omega), Ps.refl, close _ [_] hO⟩⟩
    clear hO hv
    obtain ⟨ov, P', rfl, hov, hmin, sp', hO⟩ := hM.h
    clear hM
    have htw2 : 0 ≤ tw ∧ tw ≤ 1 := by omega
    walk_at "go"
    intro q H4 P4 sp4 hq hO
    obtain ⟨CV, hCV⟩ : ∃ c, c = chv (rdy rs) ov ws t tw := ⟨_, rfl⟩
    have hsc : scal CV.1 CV.1 = true := by
      rw [hCV]
      rcases hov with rfl | ⟨z, rfl, _⟩
      · unfold chv
        split
        · rfl
        · split
          · rfl
          · split <;> rfl
      · unfold chv
        split
        · rfl
        · split
          · rfl
          · split <;> rfl
    rw [← hCV] at hq
    have sq := SqT.of (K := K) (hO.ptup hq)
    walk_at "go"
    intro H5 P5 sp5 hO
    rw [← hCV] at hO ⊢
    walk_at "go"
    refine iteN (fun h => absurd rfl h) (fun _ => ?_)
    walk_at "go"
    refine qbl (k (t + CV.2) _ P5 (fun q hq => sp5 q (sp4 q (sp' q hq))) ?_) (decide_eq_true (congrArg V.int (by simp)))
    walk_at "fin"
end
end K72

set_option Elab.async false
set_option linter.all false
set_option maxRecDepth 100000
set_option maxHeartbeats 8000000

namespace K72
open PySem PySem.Spec PyProof.Rows L2 Hx 
local macro_rules | `(tactic| walk_at "sm") => `(tactic| repeat' (first | assumption | apply Hx.Same.upd | exact L2.Same.refl _ | apply same_trans'))
local macro_rules | `(tactic| walk_at "hp") => `(tactic| repeat' (first | assumption | exact upd_same | apply old_upd | apply same_at))
local macro_rules | `(tactic| walk_at "rd") => `(tactic| repeat' (first | rfl | apply Exists.intro | apply And.intro | refine iteT ?_ | refine iteF ?_ | exact upd_same | exact SqL.of (by assumption) | exact SqL.of upd_same | exact SqT.of upd_same | exact SqT.of (by assumption) | ((with_reducible show (_ : Int) < _); omega) | ((with_reducible show (_ : Int) ≤ _); omega) | (show (_ : Prop); assumption) | exact Or.inl ⟨_, by assumption, rfl⟩ | exact Or.inl ⟨rfl, _, SqL.of (by assumption)⟩ | exact Or.inl ⟨rfl, _, SqL.of upd_same⟩ | apply old_upd | apply Hx.SqL.new | apply tyl_new | apply Pot.new | exact same_at (by assumption) (by assumption) | exact Or.inl (SqL.of (by assumption)) | exact Or.inl (by assumption) | exact Or.inl (SqL.of upd_same) | exact size_le (Nat.le_of_ble_eq_true rfl) | exact Nat.le_of_ble_eq_true rfl | exact True.intro | exact Or.inl rfl | exact Or.inr rfl | (show (_ : Prop); omega) | (show (_ : Prop); dsimp only; omega) | exact mulw64 (by omega) (by omega) | exact mulw64 (by (try dsimp only); omega) (by (try dsimp only); omega)))
set_option hygiene false in
local macro_rules | `(tactic| walk_at "fl") => `(tactic| simp only [pu_Whims_numbers, pi_Whims_numbers, pu_Whims_position, pi_Whims_position, pu_Stations_many, pi_Stations_many, pu_Stations_rows, pi_Stations_rows] at hO)
local macro_rules | `(tactic| walk_at "mem") => `(tactic| ((repeat (first | exact List.Mem.head _ | apply List.Mem.tail | fail)); done))
local macro_rules | `(tactic| walk_at "setat") => `(tactic| ((repeat (first | (with_reducible exact At.head) | (with_reducible apply At.tail) | (with_reducible apply At.app) | fail)); done))
set_option hygiene false in
local macro_rules | `(tactic| walk_at "dv") => `(tactic| ((repeat' (first | exact Dv.nil | exact Dv.of (by walk_at "mem") | exact Dv.ints _ | exact Dv1.of (by walk_at "mem") | exact Dv1.int _ | exact Dv1.non | exact Dv1.bl _ | exact Dv1.str _ | (with_reducible apply Dv.cons) | refine Dv1.tup (by walk_at "mem") ?_ | refine Dv1.lst (by walk_at "mem") ?_ | (with_reducible apply Dv.app) | fail)); done))
local macro_rules | `(tactic| walk_at "ft") => `(tactic| (first | (with_reducible exact Ft.refl) | ((with_reducible apply Ft.toL); focus walk_at "dv") | ((with_reducible apply Ft.toS); focus assumption) | (with_reducible apply Ft.lst) | (with_reducible apply Ft.Le) | (with_reducible apply Ft.dK) | (with_reducible apply Ft.De) | (with_reducible apply Ft.ins) | (with_reducible apply Ft.toL) | (with_reducible apply Ft.toS) | (with_reducible apply Ft.toD) | fail))
local macro_rules | `(tactic| walk_at "sbL") => `(tactic| repeat' (first | (with_reducible exact Sb.refl _) | exact Sb.nil | (with_reducible apply Sb.cons) | (with_reducible apply Sb.app) | (with_reducible exact Pk.one) | (with_reducible exact Pk.here) | (with_reducible exact Pk.all) | (with_reducible apply Pk.skip1) | (with_reducible apply Pk.skipB) | (with_reducible apply Sb.skip) | (with_reducible apply Sb.skipB) | ((with_reducible show Ft _ _ _ _); walk_at "ft") | ((with_reducible show (_ : List _) = _); (first | rfl | (simp [List.map_set, List.map_append]; done) | fail)) | fail))
local macro_rules | `(tactic| walk_at "sb") => `(tactic| ((walk_at "sbL"); done))
local macro_rules | `(tactic| walk_at "ps") => `(tactic| ((repeat' (first | (with_reducible exact Ps.refl) | exact Ps.nil | (with_reducible apply Ps.cons) | exact List.Mem.head _ | apply List.Mem.tail | (with_reducible apply Ps.skip) | fail)); done))
set_option hygiene false in
local macro_rules | `(tactic| walk_at "at") => `(tactic| first | assumption | exact Own.raw hO (by walk_at "mem") | exact Own.ptup hO (by walk_at "mem") | exact Own.plst hO (by walk_at "mem") | fail)
set_option hygiene false in
local macro_rules | `(tactic| walk_at "st") => `(tactic| (rw [upd_mkO hO]; generalize e : updX _ _ _ = H1; (first | ((apply Own.cset hO e); (focus walk_at "setat"); (try clear hO e); intro hO) | ((apply Own.cnewT hO e); (focus assumption); (try clear hO e); intro hO) | ((apply Own.cnew hO e); (focus assumption); (try clear hO e); intro hO) | fail)))
set_option hygiene false in
local macro_rules | `(tactic| walk_at "mk") => `(tactic| (intro p1 p2 f1 f2 f3; rw [upd_mkO hO]; generalize e : upd (updX _ _ _) _ _ = H1; apply Own.cmake hO f1 f2 f3 e; (try clear hO e); intro hO))
set_option hygiene false in
local macro_rules | `(tactic| walk_at "own") => `(tactic| (first | ((apply Own.sub hO); (focus walk_at "sb"); (focus walk_at "ps")) | ((apply Own.sub hF); (focus walk_at "sb"); (focus walk_at "ps")) | fail))
set_option hygiene false in
local macro_rules | `(tactic| walk_at "fin") => `(tactic| (refine Own.sub hO ?_ (by walk_at "ps"); walk_at "sbL"))
set_option hygiene false in
local macro_rules | `(tactic| walk_at "g1") => `(tactic| (first
 | ((with_reducible show (_ : Option HO) = _); walk_at "at")
 | ((with_reducible show (_ : Int) < _); omega) | ((with_reducible show (_ : Int) ≤ _); omega)
 | ((with_reducible show (_ : Nat) < _); (first | assumption | exact Nat.le_of_ble_eq_true rfl | exact size_lt (Nat.le_of_ble_eq_true rfl) | omega | (simp; done) | (simp; omega) | fail))
 | ((with_reducible show (_ : Nat) ≤ _); (first | assumption | exact Nat.le_of_ble_eq_true rfl | exact size_le (Nat.le_of_ble_eq_true rfl) | omega | (simp; done) | (simp; omega) | fail))
 | ((with_reducible show Own _ _ _ _); (first | walk_at "own" | (walk_at "st"; walk_at "own") | fail))
 | ((with_reducible show SqL _ _ _ _); (first | assumption | exact SqL.of (by walk_at "at") | fail))
 | ((with_reducible show SqT _ _ _ _); (first | assumption | exact hO.psq (by walk_at "mem") | exact SqT.of (by walk_at "at") | fail))
  | ((with_reducible show Cls _ _); exact Txt.cl_Whims T) | ((with_reducible show NoAttr _ _ _); exact Txt.n_Whims_numbers T) | (with_reducible exact gt_Whims_numbers) | ((with_reducible show NoAttr _ _ _); exact Txt.n_Whims_position T) | (with_reducible exact gt_Whims_position) | ((with_reducible show Cls _ _); exact Txt.cl_Stations T) | ((with_reducible show NoAttr _ _ _); exact Txt.n_Stations_many T) | (with_reducible exact gt_Stations_many) | ((with_reducible show NoAttr _ _ _); exact Txt.n_Stations_rows T) | (with_reducible exact gt_Stations_rows)  | ((with_reducible show V.ref _ = V.ref _); (first | rfl | fail))
 | ((with_reducible show DGet _ _ _ _); (first | exact DGet.ki (by walk_at "at") (by assumption) | exact DGet.kiF (by walk_at "at") (by assumption) | fail))
 | ((with_reducible show DPut _ _ _ _ _); exact DPut.ki (by walk_at "at") (by assumption))
 | ((with_reducible show Rd _ _ _); (first | exact Or.inl (by walk_at "at") | exact Or.inr ⟨_, by walk_at "at"⟩ | fail))
 | ((with_reducible show (∃ _ : List (Key × V), _) ∨ _); refine Or.inl ⟨_, by walk_at "at", ?_⟩)
 | ((with_reducible show Dv _ _ _ _); focus walk_at "dv") | ((with_reducible show Dv1 _ _ _ _); focus walk_at "dv")
 | ((with_reducible show IsD _ _); exact Or.inl ⟨_, Or.inl (by walk_at "at")⟩)
 | ((with_reducible show V.int _ = kV _); exact kV_int)
 | ((with_reducible show Option.isSome _ = true); (first | exact isSome_ofV (by assumption) | assumption | fail))
 | ((with_reducible show SqL _ _ _ _ ∨ SqT _ _ _ _); (first | exact Or.inl (by assumption) | exact Or.inr (by assumption) | exact Or.inl (SqL.of (by walk_at "at")) | exact Or.inr (SqT.of (by walk_at "at")) | fail))
 | ((with_reducible show Dp _ _ _ _); (first | assumption | exact hO.dpL (by walk_at "mem") | exact .lst (SqL.of (by walk_at "at")) (hO.all (by walk_at "dv")) | exact hO.one (by walk_at "dv") | fail))
 | ((with_reducible show TruV _ _ _ _); (first | exact Or.inl ⟨_, SqL.of (by walk_at "at"), rfl⟩ | exact Or.inr (Or.inr ⟨_, by walk_at "at", rfl⟩) | exact Or.inr (Or.inl ⟨_, SqT.of (by walk_at "at"), rfl⟩) | fail))
 | ((with_reducible show RgOk _ _); exact RgOk.of_le (by omega) (by omega) (by omega) (by omega))
 | rfl | (with_reducible assumption) | apply And.intro | apply Exists.intro | refine iteT ?_ | refine iteF ?_
 | (walk_at "st"; (try walk_at "fl"))
 | ((with_reducible show ∀ _ : Addr, _ = none → _); (fail_if_success (with_reducible show ∀ _ : Addr, _ = none → ∃ _ : Nat → Nat → Hp → Prop, _)); intro p fp; walk_at "st")
 | (refine Or.inl ⟨SqL.of (by walk_at "at"), ?_⟩) | (refine Or.inr ⟨SqT.of (by walk_at "at"), ?_⟩) | exact Or.inl ⟨_, by walk_at "at", rfl⟩ | exact Or.inl ⟨rfl, _, SqL.of (by walk_at "at")⟩ | exact tyl_of (by walk_at "at") | exact Or.inl (SqL.of (by walk_at "at")) | exact Or.inr (SqT.of (by walk_at "at")) | exact Or.inl (by walk_at "at") | exact size_le (Nat.le_of_ble_eq_true rfl) | exact Nat.le_of_ble_eq_true rfl | exact True.intro | exact Or.inl rfl | exact Or.inr rfl | (show (_ : Prop); assumption) | (show (_ : Prop); omega) | (show (_ : Prop); dsimp only; omega) | exact mulw64 (by omega) (by omega) | exact mulw64 (by (try dsimp only); omega) (by (try dsimp only); omega) | fail))
local macro_rules | `(tactic| walk_at "go") => `(tactic| repeat walk_at "g1")

section
variable {P : Program} {w : World} {K : PySem.W.Frag} {mg : Str → Option Value} {base : Heap}
def sp_Lput (K : PySem.W.Frag) (C : Addr) : Sp := fun vs H Q _ => ∃ (a x dx d o : Addr) (m n : Int) (rs : List SR) (R : List (Addr × Ob)) (P : List Pf), vs = [.ref a, .ref x, .ref o, .int n, .int m] ∧ Own K H (pt a ++ (stn C x dx d m rs ++ ((o, .D (ik (sD rs))) :: R))) P ∧ Sw rs ∧ 0 ≤ n ∧ (rs.length : Int) < 40 ∧
  ∀ (rs' : List SR) (H' : Hp) (P' : List Pf), Sw rs' → rs'.length ≤ rs.length + 1 → Ps P P' → Own K H' (pt a ++ (stn C x dx d m rs' ++ ((o, .D (ik (sD rs'))) :: R))) P' → Q (.bl true) H'
theorem ok_Lput (T : Txt w K mg) : FnOk P w K mg base CX0 6 T.f_Lput T.fd_Lput ["_law_pot_here", "_law_rows", "_law_own", "_law_number", "_law_most"] (sp_Lput K T.C_Stations) := by
  have G_Lplaces := ok_Lplaces (P := P) (w := w) (base := base) T
  have G_Stations_put := ok_Stations_put (P := P) (w := w) (base := base) T
  refine T.F_Lput.ok sc_Lput (fun vs H Q E h => ?_) (fun cdv A outer s H vs Q E hr h => ?_)
  · obtain ⟨a, x, dx, d, o, m, n, rs, R, P, rfl, hO, hL, hn, hl, k⟩ := h; rfl
  · obtain ⟨a, x, dx, d, o, m, n, rs, R, P, rfl, hO, hL, hn, hl, k⟩ := h
    refine ⟨_, (pss_cons (ps_asg (pe_tup (pa_cons (pe_call G_Lplaces (hr.mono (by decide)) rfl T.g_Lplaces T.F_Lplaces.kp T.b_Lplaces .nil pass0 (pa_cons (pv 0) (pa_cons pe_int pa_nil))) (pa_cons (pe_call G_Lplaces (hr.mono (by decide)) rfl T.g_Lplaces T.F_Lplaces.kp T.b_Lplaces .nil pass0 (pa_cons (pv 0) (pa_cons pe_int pa_nil))) pa_nil))) (pg_tup rfl (pgs_cons (pg_name (i := 5) sc_Lput.nd rfl (Or.inl rfl)) (pgs_cons (pg_name (i := 6) sc_Lput.nd rfl (Or.inr rfl)) pgs_nil))))
        (pss_cons (ps_if (PW.pt (pw_or (pt_cmp (pc_din (hu_of hr) (pv 3) (pv 2))) (pw_or1 (pt_cmpR op_eq (pe_callB call_lenD (by rfl) T.m_len (by decide +kernel) (pa_cons (pv 2) pa_nil)) (pv 4) (nomark _)))))
          (pss_one (ps_ret pe_bl))
          pss_nil)
        (pss_cons (ps_set (i := 7) sc_Lput.nd rfl (Or.inl rfl) (pe_callB (cr_sortedSet rfl) (by rfl) T.m_sorted (by decide +kernel) (pa_cons (pe_callTy (cr_setL rfl) (by rfl) T.m_set (by decide +kernel) (pa_cons (pe_lc (own := [("_law_place", 8)]) (g := gName 8) (tt := (tTest (tOp (rIn K true) (tVar 8) (tVar 6)))) rfl sc_Lput.nd (pi_list (pv 5)) (blkOk_by (N := ["_law_pot_here", "_law_rows", "_law_own", "_law_number", "_law_most", "_law_reads", "_law_ready", "_law_waits", "_law_place"]) (sc := defScope s_Lput) (by decide +kernel)) (fun _ _ _ _ _ => pg_name (i := 8) sc_Lput.nd rfl (Or.inl rfl)) (fun _ _ _ _ _ => pts_one (pt_cmpR op_notIn_seq (pv 8) (pv 6) (by rfl))) (fun _ _ _ _ _ => (pv 8))) pa_nil)) pa_nil)))
        (pss_cons (ps_dput (hu_of hr) (pv 2) (pv 3) (pe_tup (pa_cons (pv 5) (pa_cons (pv 7) pa_nil))) rfl)
        (pss_one (ps_ret (pe_cmpR op_isN (pe_meth (pv 1) T.cl_Stations T.me_Stations_put G_Stations_put (hr.mono (by decide)) T.b_Stations_put .nil pass0 (pa_cons (pv 3) (pa_cons (pe_callTy call_tuple_of (by rfl) T.m_tuple (by decide +kernel) (pa_cons (pv 5) pa_nil)) (pa_cons (pv 6) pa_nil)))) pe_non (nomark _)))))))), ?_⟩
    clear G_Lplaces G_Stations_put
    clear hr
    walk_at "go"
    intro pr rd H2 hrl hrb hO
    walk_at "go"
    intro pq ry H3 hyl hyb hO
    replace hrl : rd.length ≤ 3 := hrl
    replace hyl : ry.length ≤ 4 := hyl
    obtain ⟨kvs, hk, o1⟩ := hO.openD (a := o) (by walk_at "mem")
    replace hO := o1 _ (by walk_at "setat")
    clear o1
    have ek := ik_keys hk
    have lk := ik_len hk
    rw [sD_len] at lk
    have szk : kvs.length < sizeLine := size_lt (by omega)
    by_cases hin : n ∈ skeys rs
    · obtain ⟨r, hf, hr, e⟩ := sfind hin
      obtain ⟨v, hv⟩ := valV_of hk (s_val hf)
      walk_at "go"
      refine k rs _ P hL (Nat.le_succ _) Ps.refl (Own.sub hO ?_ (Ps.skip (Ps.skip Ps.refl)))
      walk_at "sbL"
      · exact hk
      · exact Dv.of (by walk_at "mem")
    · have nd := s_none hin
      have hv := valV_ofN hk nd
      walk_at "go"
      refine iteD (fun h => ?_) (fun h => ?_)
      · walk_at "go"
        refine k rs _ P hL (Nat.le_succ _) Ps.refl (Own.sub hO ?_ (Ps.skip (Ps.skip Ps.refl)))
        walk_at "sbL"
        · exact hk
        · exact Dv.of (by walk_at "mem")
      · have hnm : (rs.length : Int) ≠ m := fun e => h (by rw [lk, e])
        walk_at "go"
        intro D hD
        refine lc_siftW rd V.int (fun z => decide (z ∉ ry)) (walk_ints (K := K) (a := pr)) hO hD (by omega) (fun H L' P' s t h => SqL.of (h.raw (s _ (by walk_at "mem")))) (fun i z v H9 H' P' ys Qn Qy hz hv sp hO kn ky => ?_) (fun H5 P5 sp5 hO => ?_)
        · obtain ⟨rfl, hv⟩ := hv
          rw [List.getElem?_map, hz] at hv
          injection hv with hv
          subst hv
          have hin := inV_ints z ry
          have hfl := flat_ints ry
          walk_at "go"
          rw [hin]
          by_cases h : z ∈ ry
          · rw [decide_eq_true h]
            walk_at "go"
            refine kn (decide_eq_false (fun q => q h)) _ _ ?_ hO
            walk_at "ps"
          · rw [decide_eq_false h]
            walk_at "go"
            refine ky (decide_eq_true h) _ _ ?_ hO
            walk_at "ps"
        · obtain ⟨fs, hfs⟩ : ∃ fs, fs = rd.filter fun z => decide (z ∉ ry) := ⟨_, rfl⟩
          have lf : fs.length ≤ 3 := by rw [hfs]; exact Nat.le_trans (List.length_filter_le _ _) hrl
          have lf' : fs.length ≤ 1000 := by omega
          rw [← hfs] at hO
          walk_at "go"
          intro p1 c1 hc1 f1
          walk_at "st"
          have hc64 : c1 < 64 := by omega
          walk_at "go"
          intro ns p2 hpw hmem2 hlen f2
          obtain rfl := uq_of (xs := fs) hpw (fun z => by rw [hmem2, decide_eq_true_iff])
          walk_at "st"
          have hrl3 : rd.length ≤ 3 := hrl
          have hyl48 : ry.length ≤ 48 := by omega
          have hrb2 : ∀ z ∈ rd, 0 ≤ z ∧ z < 48 := fun z hz => by have := hrb z hz; omega
          have hyb2 : ∀ z ∈ ry, 0 ≤ z ∧ z < 48 := fun z hz => by have := hyb z hz; omega
          have hl1000 : rs.length ≤ 1000 := by omega
          walk_at "go"
          · exact List.Mem.head _
          walk_at "go"
          intro H7 P7 sp7 hO
          replace hO := Own.give (a := p2) (vs := (uq fs).map V.int) hO (by repeat (first | (with_reducible exact Pk.one) | (with_reducible apply Pk.skip1) | (with_reducible apply Pk.skipB)))
          replace hO := Own.give (a := pr) (vs := rd.map V.int) hO (by repeat (first | (with_reducible exact Pk.one) | (with_reducible apply Pk.skip1) | (with_reducible apply Pk.skipB)))
          have ew : wt rd ry = uq fs := by rw [wt, ← hfs]
          rw [ew] at hO
          have e : ik (sD (rs ++ [(n, rd, uq fs)])) = putD (ik (sD rs)) (Sum.inl n) (.tuple [lD rd, lD (uq fs)]) := by
            rw [putD_new nd]; simp [ik, sD]
          have dk : Dv K P5 (kvs.map Prod.snd) ((ik (sD rs)).map Prod.snd) := Dv.of (sp5 _ (List.mem_cons_of_mem _ List.mem_cons_self))
          replace hO := hO.dv1 (d := .tuple [lD rd, lD (uq fs)]) (Dv1.tup (List.mem_cons_of_mem _ (List.mem_cons_of_mem _ (sp7 _ (List.mem_cons_of_mem _ List.mem_cons_self)))) (Dv.cons (Dv1.lst (by walk_at "mem") (Dv.ints rd)) (Dv.cons (Dv1.lst (by walk_at "mem") (Dv.ints (uq fs))) Dv.nil)))
          replace hO := hO.dv (dk.mono (fun q hq => List.mem_cons_of_mem _ (List.mem_cons_of_mem _ (List.mem_cons_of_mem _ (sp7 q (List.mem_cons_of_mem _ (List.mem_cons_of_mem _ hq)))))))
          walk_at "go"
          refine qbl (k (rs ++ [(n, rd, uq fs)]) H7 P7 ⟨?_, fun r hr => ?_, ?_, fun r hr => ?_⟩ (by simp) (fun q hq => sp7 q (List.mem_cons_of_mem _ (List.mem_cons_of_mem _ (sp5 q (List.mem_cons_of_mem _ (List.mem_cons_of_mem _ hq)))))) (Own.sub hO ?_ (Ps.skip (Ps.skip (Ps.skip (Ps.skip Ps.refl)))))) (decide_eq_true rfl)
          · rw [skeys, List.map_append, List.nodup_append]
            refine ⟨hL.nd, by simp, fun z hz w hw e2 => ?_⟩
            simp at hw
            subst hw
            exact hin (e2 ▸ hz)
          · rcases List.mem_append.mp hr with hr | hr
            · exact hL.nn r hr
            · simp at hr; subst hr; exact hn
          · rw [List.length_append]; simp; omega
          · rcases List.mem_append.mp hr with hr | hr
            · exact hL.rd r hr
            · simp at hr; subst hr
              exact ⟨hrl, Nat.le_trans (uq_len fs) lf⟩
          · rw [e]
            walk_at "sbL"
            · exact putK_fst hk _ _ _
            · exact Dv.put (Dv.of List.mem_cons_self) hk (Dv1.of (by walk_at "mem"))
end
end K72

set_option Elab.async false
set_option linter.all false
set_option maxRecDepth 100000
set_option maxHeartbeats 8000000

namespace K72
open PySem PySem.Spec PyProof.Rows L2 Hx 
local macro_rules | `(tactic| walk_at "sm") => `(tactic| repeat' (first | assumption | apply Hx.Same.upd | exact L2.Same.refl _ | apply same_trans'))
local macro_rules | `(tactic| walk_at "hp") => `(tactic| repeat' (first | assumption | exact upd_same | apply old_upd | apply same_at))
local macro_rules | `(tactic| walk_at "rd") => `(tactic| repeat' (first | rfl | apply Exists.intro | apply And.intro | refine iteT ?_ | refine iteF ?_ | exact upd_same | exact SqL.of (by assumption) | exact SqL.of upd_same | exact SqT.of upd_same | exact SqT.of (by assumption) | ((with_reducible show (_ : Int) < _); omega) | ((with_reducible show (_ : Int) ≤ _); omega) | (show (_ : Prop); assumption) | exact Or.inl ⟨_, by assumption, rfl⟩ | exact Or.inl ⟨rfl, _, SqL.of (by assumption)⟩ | exact Or.inl ⟨rfl, _, SqL.of upd_same⟩ | apply old_upd | apply Hx.SqL.new | apply tyl_new | apply Pot.new | exact same_at (by assumption) (by assumption) | exact Or.inl (SqL.of (by assumption)) | exact Or.inl (by assumption) | exact Or.inl (SqL.of upd_same) | exact size_le (Nat.le_of_ble_eq_true rfl) | exact Nat.le_of_ble_eq_true rfl | exact True.intro | exact Or.inl rfl | exact Or.inr rfl | (show (_ : Prop); omega) | (show (_ : Prop); dsimp only; omega) | exact mulw64 (by omega) (by omega) | exact mulw64 (by (try dsimp only); omega) (by (try dsimp only); omega)))
set_option hygiene false in
local macro_rules | `(tactic| walk_at "fl") => `(tactic| simp only [pu_Whims_numbers, pi_Whims_numbers, pu_Whims_position, pi_Whims_position, pu_Stations_many, pi_Stations_many, pu_Stations_rows, pi_Stations_rows] at hO)
local macro_rules | `(tactic| walk_at "mem") => `(tactic| ((repeat (first | exact List.Mem.head _ | apply List.Mem.tail | fail)); done))
local macro_rules | `(tactic| walk_at "setat") => `(tactic| ((repeat (first | (with_reducible exact At.head) | (with_reducible apply At.tail) | (with_reducible apply At.app) | fail)); done))
set_option hygiene false in
local macro_rules | `(tactic| walk_at "dv") => `(tactic| ((repeat' (first | exact Dv.nil | exact Dv.of (by walk_at "mem") | exact Dv.ints _ | exact Dv1.of (by walk_at "mem") | exact Dv1.int _ | exact Dv1.non | exact Dv1.bl _ | exact Dv1.str _ | (with_reducible apply Dv.cons) | refine Dv1.tup (by walk_at "mem") ?_ | refine Dv1.lst (by walk_at "mem") ?_ | (with_reducible apply Dv.app) | fail)); done))
local macro_rules | `(tactic| walk_at "ft") => `(tactic| (first | (with_reducible exact Ft.refl) | ((with_reducible apply Ft.toL); focus walk_at "dv") | ((with_reducible apply Ft.toS); focus assumption) | (with_reducible apply Ft.lst) | (with_reducible apply Ft.Le) | (with_reducible apply Ft.dK) | (with_reducible apply Ft.De) | (with_reducible apply Ft.ins) | (with_reducible apply Ft.toL) | (with_reducible apply Ft.toS) | (with_reducible apply Ft.toD) | fail))
local macro_rules | `(tactic| walk_at "sbL") => `(tactic| repeat' (first | (with_reducible exact Sb.refl _) | exact Sb.nil | (with_reducible apply Sb.cons) | (with_reducible apply Sb.app) | (with_reducible exact Pk.one) | (with_reducible exact Pk.here) | (with_reducible exact Pk.all) | (with_reducible apply Pk.skip1) | (with_reducible apply Pk.skipB) | (with_reducible apply Sb.skip) | (with_reducible apply Sb.skipB) | ((with_reducible show Ft _ _ _ _); walk_at "ft") | ((with_reducible show (_ : List _) = _); (first | rfl | (simp [List.map_set, List.map_append]; done) | fail)) | fail))
local macro_rules | `(tactic| walk_at "sb") => `(tactic| ((walk_at "sbL"); done))
local macro_rules | `(tactic| walk_at "ps") => `(tactic| ((repeat' (first | (with_reducible exact Ps.refl) | exact Ps.nil | (with_reducible apply Ps.cons) | exact List.Mem.head _ | apply List.Mem.tail | (with_reducible apply Ps.skip) | fail)); done))
set_option hygiene false in
local macro_rules | `(tactic| walk_at "at") => `(tactic| first | assumption | exact Own.raw hO (by walk_at "mem") | exact Own.ptup hO (by walk_at "mem") | exact Own.plst hO (by walk_at "mem") | fail)
set_option hygiene false in
local macro_rules | `(tactic| walk_at "st") => `(tactic| (rw [upd_mkO hO]; generalize e : updX _ _ _ = H1; (first | ((apply Own.cset hO e); (focus walk_at "setat"); (try clear hO e); intro hO) | ((apply Own.cnewT hO e); (focus assumption); (try clear hO e); intro hO) | ((apply Own.cnew hO e); (focus assumption); (try clear hO e); intro hO) | fail)))
set_option hygiene false in
local macro_rules | `(tactic| walk_at "mk") => `(tactic| (intro p1 p2 f1 f2 f3; rw [upd_mkO hO]; generalize e : upd (updX _ _ _) _ _ = H1; apply Own.cmake hO f1 f2 f3 e; (try clear hO e); intro hO))
set_option hygiene false in
local macro_rules | `(tactic| walk_at "own") => `(tactic| (first | ((apply Own.sub hO); (focus walk_at "sb"); (focus walk_at "ps")) | ((apply Own.sub hF); (focus walk_at "sb"); (focus walk_at "ps")) | fail))
set_option hygiene false in
local macro_rules | `(tactic| walk_at "fin") => `(tactic| (refine Own.sub hO ?_ (by walk_at "ps"); walk_at "sbL"))
set_option hygiene false in
local macro_rules | `(tactic| walk_at "g1") => `(tactic| (first
 | ((with_reducible show (_ : Option HO) = _); walk_at "at")
 | ((with_reducible show (_ : Int) < _); omega) | ((with_reducible show (_ : Int) ≤ _); omega)
 | ((with_reducible show (_ : Nat) < _); (first | assumption | exact Nat.le_of_ble_eq_true rfl | exact size_lt (Nat.le_of_ble_eq_true rfl) | omega | (simp; done) | (simp; omega) | fail))
 | ((with_reducible show (_ : Nat) ≤ _); (first | assumption | exact Nat.le_of_ble_eq_true rfl | exact size_le (Nat.le_of_ble_eq_true rfl) | omega | (simp; done) | (simp; omega) | fail))
 | ((with_reducible show Own _ _ _ _); (first | walk_at "own" | (walk_at "st"; walk_at "own") | fail))
 | ((with_reducible show SqL _ _ _ _); (first | assumption | exact SqL.of (by walk_at "at") | fail))
 | ((with_reducible show SqT _ _ _ _); (first | assumption | exact hO.psq (by walk_at "mem") | exact SqT.of (by walk_at "at") | fail))
  | ((with_reducible show Cls _ _); exact Txt.cl_Whims T) | ((with_reducible show NoAttr _ _ _); exact Txt.n_Whims_numbers T) | (with_reducible exact gt_Whims_numbers) | ((with_reducible show NoAttr _ _ _); exact Txt.n_Whims_position T) | (with_reducible exact gt_Whims_position) | ((with_reducible show Cls _ _); exact Txt.cl_Stations T) | ((with_reducible show NoAttr _ _ _); exact Txt.n_Stations_many T) | (with_reducible exact gt_Stations_many) | ((with_reducible show NoAttr _ _ _); exact Txt.n_Stations_rows T) | (with_reducible exact gt_Stations_rows)  | ((with_reducible show V.ref _ = V.ref _); (first | rfl | fail))
 | ((with_reducible show DGet _ _ _ _); (first | exact DGet.ki (by walk_at "at") (by assumption) | exact DGet.kiF (by walk_at "at") (by assumption) | fail))
 | ((with_reducible show DPut _ _ _ _ _); exact DPut.ki (by walk_at "at") (by assumption))
 | ((with_reducible show Rd _ _ _); (first | exact Or.inl (by walk_at "at") | exact Or.inr ⟨_, by walk_at "at"⟩ | fail))
 | ((with_reducible show (∃ _ : List (Key × V), _) ∨ _); refine Or.inl ⟨_, by walk_at "at", ?_⟩)
 | ((with_reducible show Dv _ _ _ _); focus walk_at "dv") | ((with_reducible show Dv1 _ _ _ _); focus walk_at "dv")
 | ((with_reducible show IsD _ _); exact Or.inl ⟨_, Or.inl (by walk_at "at")⟩)
 | ((with_reducible show V.int _ = kV _); exact kV_int)
 | ((with_reducible show Option.isSome _ = true); (first | exact isSome_ofV (by assumption) | assumption | fail))
 | ((with_reducible show SqL _ _ _ _ ∨ SqT _ _ _ _); (first | exact Or.inl (by assumption) | exact Or.inr (by assumption) | exact Or.inl (SqL.of (by walk_at "at")) | exact Or.inr (SqT.of (by walk_at "at")) | fail))
 | ((with_reducible show Dp _ _ _ _); (first | assumption | exact hO.dpL (by walk_at "mem") | exact .lst (SqL.of (by walk_at "at")) (hO.all (by walk_at "dv")) | exact hO.one (by walk_at "dv") | fail))
 | ((with_reducible show TruV _ _ _ _); (first | exact Or.inl ⟨_, SqL.of (by walk_at "at"), rfl⟩ | exact Or.inr (Or.inr ⟨_, by walk_at "at", rfl⟩) | exact Or.inr (Or.inl ⟨_, SqT.of (by walk_at "at"), rfl⟩) | fail))
 | ((with_reducible show RgOk _ _); exact RgOk.of_le (by omega) (by omega) (by omega) (by omega))
 | rfl | (with_reducible assumption) | apply And.intro | apply Exists.intro | refine iteT ?_ | refine iteF ?_
 | (walk_at "st"; (try walk_at "fl"))
 | ((with_reducible show ∀ _ : Addr, _ = none → _); (fail_if_success (with_reducible show ∀ _ : Addr, _ = none → ∃ _ : Nat → Nat → Hp → Prop, _)); intro p fp; walk_at "st")
 | (refine Or.inl ⟨SqL.of (by walk_at "at"), ?_⟩) | (refine Or.inr ⟨SqT.of (by walk_at "at"), ?_⟩) | exact Or.inl ⟨_, by walk_at "at", rfl⟩ | exact Or.inl ⟨rfl, _, SqL.of (by walk_at "at")⟩ | exact tyl_of (by walk_at "at") | exact Or.inl (SqL.of (by walk_at "at")) | exact Or.inr (SqT.of (by walk_at "at")) | exact Or.inl (by walk_at "at") | exact size_le (Nat.le_of_ble_eq_true rfl) | exact Nat.le_of_ble_eq_true rfl | exact True.intro | exact Or.inl rfl | exact Or.inr rfl | (show (_ : Prop); assumption) | (show (_ : Prop); omega) | (show (_ : Prop); dsimp only; omega) | exact mulw64 (by omega) (by omega) | exact mulw64 (by (try dsimp only); omega) (by (try dsimp only); omega) | fail))
local macro_rules | `(tactic| walk_at "go") => `(tactic| repeat walk_at "g1")

section
variable {P : Program} {w : World} {K : PySem.W.Frag} {mg : Str → Option Value} {base : Heap}
/-- what stands aside -/
structure As (C : Addr) (v : V) (B : List (Addr × Ob)) (P : List Pf) : Prop where
  ex : v = .non ∨ ∃ (t x dx d o : Addr) (m : Int) (rs : List SR), v = .ref t ∧ B = stn C x dx d m rs ++ [(o, .D (ik (sD rs)))] ∧ Sw rs ∧ Pf.tup t [.ref x, .ref o] ∈ P
theorem As.mono {C : Addr} {v : V} {B : List (Addr × Ob)} {P P' : List Pf} (h : As C v B P) (s : Ps P P') : As C v B P' := by
  rcases h.ex with h | ⟨t, x, dx, d, o, m, rs, h1, h2, h3, h4⟩
  · exact ⟨.inl h⟩
  · exact ⟨.inr ⟨t, x, dx, d, o, m, rs, h1, h2, h3, s _ h4⟩⟩
theorem Sw.sub {rs rs' : List SR} (h : Sw rs) (s : rs'.Sublist rs) : Sw rs' :=
  ⟨h.nd.sublist (s.map _), fun r hr => h.nn r (s.subset hr), Nat.le_trans s.length_le h.le, fun r hr => h.rd r (s.subset hr)⟩
/-- woken: z is waited for no more -/
def wk (z : Int) (r : SR) : SR := (r.1, r.2.1, r.2.2.filter fun w => decide (w ≠ z))
theorem wk_keys (z : Int) (rs : List SR) : skeys (rs.map (wk z)) = skeys rs := by rw [skeys, skeys, List.map_map]; rfl
theorem Sw.wk {rs : List SR} (h : Sw rs) (z : Int) : Sw (rs.map (K72.wk z)) := by
  refine ⟨by rw [wk_keys]; exact h.nd, fun r hr => ?_, by rw [List.length_map]; exact h.le, fun r hr => ?_⟩
  · obtain ⟨q, hq, rfl⟩ := List.mem_map.mp hr
    exact h.nn q hq
  · obtain ⟨q, hq, rfl⟩ := List.mem_map.mp hr
    exact ⟨(h.rd q hq).1, Nat.le_trans (List.length_filter_le _ _) (h.rd q hq).2⟩
theorem keys_uniq : ∀ {rs : List SR} {q r : SR}, (skeys rs).Nodup → q ∈ rs → r ∈ rs → q.1 = r.1 → q = r
  | u :: rs, q, r, nd, hq, hr, e => by
    have nd' := List.nodup_cons.mp (show (u.1 :: skeys rs).Nodup from nd)
    rcases List.mem_cons.mp hq with eq | hq'
    · rcases List.mem_cons.mp hr with er | hr'
      · rw [eq, er]
      · subst eq
        exact absurd (show q.1 ∈ skeys rs from e ▸ List.mem_map_of_mem (f := fun r : SR => r.1) hr') nd'.1
    · rcases List.mem_cons.mp hr with er | hr'
      · subst er
        exact absurd (show r.1 ∈ skeys rs from e ▸ List.mem_map_of_mem (f := fun r : SR => r.1) hq') nd'.1
      · exact keys_uniq nd'.2 hq' hr' e
theorem ikD (rs : List SR) : ik (sD rs) = rs.map fun r => (Sum.inl r.1, .tuple [lD r.2.1, lD r.2.2]) := by rw [ik, sD, List.map_map]; rfl
theorem wk_put {rs : List SR} {ks : List Int} {z n : Int} {j : Nat} {r : SR} (hnd : (skeys rs).Nodup) (hn : ks[j]? = some n) (hnj : n ∉ ks.take j) (hr : r ∈ rs.map fun r => if r.1 ∈ ks.take j then wk z r else r) (e : r.1 = n) :
    ik (sD (rs.map fun r => if r.1 ∈ ks.take (j + 1) then wk z r else r)) = putD (ik (sD (rs.map fun r => if r.1 ∈ ks.take j then wk z r else r))) (Sum.inl n) (.tuple [lD r.2.1, lD (r.2.2.filter fun w => decide (w ≠ z))]) := by
  have hkj : skeys (rs.map fun r => if r.1 ∈ ks.take j then wk z r else r) = skeys rs := by
    rw [skeys, skeys, List.map_map]
    refine List.map_congr_left fun r _ => ?_
    simp only [Function.comp]
    split <;> rfl
  obtain ⟨RJ, hRJ⟩ : ∃ RJ, RJ = rs.map fun r => if r.1 ∈ ks.take j then wk z r else r := ⟨_, rfl⟩
  rw [← hRJ] at hr hkj ⊢
  rw [ikD RJ, putD_rows (fun r : SR => r.1) (fun r : SR => .tuple [lD r.2.1, lD r.2.2]) RJ n _ (fun q => if q.1 = n then wk z q else q) ⟨r, hr, e⟩ (fun q => by split <;> rfl) (fun q hq eq => ?_) (fun q _ hq => if_neg hq), ikD]
  · congr 1
    rw [hRJ, List.map_map]
    refine List.map_congr_left fun q _ => ?_
    simp only [Function.comp]
    rw [List.take_add_one, hn]
    by_cases eq : q.1 = n
    · have nq : q.1 ∉ ks.take j := eq ▸ hnj
      rw [if_neg nq, if_pos eq, if_pos (by simp [eq])]
    · have iff1 : q.1 ∈ ks.take j ++ (some n).toList ↔ q.1 ∈ ks.take j := by simp [eq]
      by_cases h1 : q.1 ∈ ks.take j
      · rw [if_pos (iff1.mpr h1), if_pos h1, if_neg (show ¬ (wk z q).1 = n from eq)]
      · rw [if_neg (fun h => h1 (iff1.mp h)), if_neg h1, if_neg eq]
  · have : q = r := keys_uniq (by rw [hkj]; exact hnd) hq hr (eq.trans e.symm)
    subst this
    rw [if_pos eq]
    rfl
structure Iv (K : PySem.W.Frag) (C CW a : Addr) (m : Int) (n : Nat) (t4 t8 : Option V) (σ : L2.St) (H : Hp) : Prop where
  ex : ∃ (x dx d o wx dw wn nl : Addr) (ws : List Int) (t : Nat) (rs : List SR) (v7 : V) (t9 t10 t11 t12 t13 t14 : Option V) (B : List (Addr × Ob)) (P : List Pf),
    σ = [some (.ref a), some (.int m), some (.ref o), some (.ref nl), t4, some (.ref x), some (.ref wx), some v7, t8, t9, t10, t11, t12, t13, t14] ∧ Sw rs ∧ rs.length ≤ n ∧ ws.length ≤ 200 ∧ As C v7 B P ∧
    Own K H (pt a ++ (stn C x dx d m rs ++ ((o, .D (ik (sD rs))) :: (wm CW wx dw wn ws t ++ ((nl, .raw (.lst (ws.map V.int))) :: B))))) P
def sp_Lright (K : PySem.W.Frag) : Sp := fun vs H Q _ => ∃ (a : Addr), vs = [.ref a] ∧ Own K H (pt a ++ []) [] ∧ ∀ H', Q (.bl true) H'
theorem ok_Lright (T : Txt w K mg) : FnOk P w K mg base CX0 7 T.f_Lright T.fd_Lright ["_law_pot_here"] (sp_Lright K) := by
  have G_Ldraw := ok_Ldraw (P := P) (w := w) (base := base) T
  have G_Stations_init := ok_Stations_init (P := P) (w := w) (base := base) T
  have G_Whims_init := ok_Whims_init (P := P) (w := w) (base := base) T
  have G_Lpick := ok_Lpick (P := P) (w := w) (base := base) T
  have G_Lput := ok_Lput (P := P) (w := w) (base := base) T
  have G_Stations_woken := ok_Stations_woken (P := P) (w := w) (base := base) T
  have G_Lchosen_right := ok_Lchosen_right (P := P) (w := w) (base := base) T
  have G_Stations_picked := ok_Stations_picked (P := P) (w := w) (base := base) T
  have G_Stations_dropped := ok_Stations_dropped (P := P) (w := w) (base := base) T
  have G_Stations_copy := ok_Stations_copy (P := P) (w := w) (base := base) T
  have G_Lseen := ok_Lseen (P := P) (w := w) (base := base) T
  refine T.F_Lright.ok sc_Lright (fun vs H Q E h => ?_) (fun cdv A outer s H vs Q E hr h => ?_)
  · obtain ⟨a, rfl, hO, k⟩ := h; rfl
  · obtain ⟨a, rfl, hO, k⟩ := h
    refine ⟨_, (pss_cons (ps_par3 (i := 1) (j := 2) (l := 3) rfl sc_Lright.nd rfl rfl rfl (by decide) (by decide) (by decide) rfl rfl rfl (pa_cons (pe_op op_add pe_int (pe_call G_Ldraw (hr.mono (by decide)) rfl T.g_Ldraw T.F_Ldraw.kp T.b_Ldraw .nil pass0 (pa_cons (pv 0) (pa_cons pe_int pa_nil)))) (pa_cons pe_dnewK (pa_cons (pe_lst pa_nil) pa_nil))) (by rfl))
        (pss_cons (ps_forS PassesOwn.never rfl (pi_range1 rfl T.m_range (pa_cons (pe_call G_Ldraw (hr.mono (by decide)) rfl T.g_Ldraw T.F_Ldraw.kp T.b_Ldraw .nil pass0 (pa_cons (pv 0) (pa_cons pe_int pa_nil))) pa_nil)) (pg_name (i := 4) sc_Lright.nd rfl (Or.inl rfl))
          (pss_one (ps_expr (pe_bm PySem.F.plainAttrs_list PySem.F.slot_list_append PySem.F.type_list_append mt_append (pv 3) (pa_cons (pe_call G_Ldraw (hr.mono (by decide)) rfl T.g_Ldraw T.F_Ldraw.kp T.b_Ldraw .nil pass0 (pa_cons (pv 0) (pa_cons pe_int pa_nil))) pa_nil)))))
        (pss_cons (ps_par3 (i := 5) (j := 6) (l := 7) rfl sc_Lright.nd rfl rfl rfl (by decide) (by decide) (by decide) rfl rfl rfl (pa_cons (pe_make T.mk_Stations G_Stations_init (hr.mono (by decide)) rfl T.g_Stations T.b_Stations_init .nil pass0 (pa_cons (pv 1) pa_nil)) (pa_cons (pe_make T.mk_Whims G_Whims_init (hr.mono (by decide)) rfl T.g_Whims T.b_Whims_init .nil pass0 (pa_cons (pv 3) pa_nil)) (pa_cons pe_non pa_nil))) (by rfl))
        (pss_cons (ps_forS PassesOwn.never rfl (pi_range1 rfl T.m_range (pa_cons (pe_op op_add pe_int (pe_call G_Ldraw (hr.mono (by decide)) rfl T.g_Ldraw T.F_Ldraw.kp T.b_Ldraw .nil pass0 (pa_cons (pv 0) (pa_cons pe_int pa_nil)))) pa_nil)) (pg_name (i := 4) sc_Lright.nd rfl (Or.inl rfl))
          (pss_cons (ps_set (i := 8) sc_Lright.nd rfl (Or.inl rfl) (pe_call G_Lpick (hr.mono (by decide)) rfl T.g_Lpick T.F_Lpick.kp T.b_Lpick .nil pass0 (pa_cons (pv 0) (pa_cons (pe_lst (pa_cons pe_int (pa_cons pe_int (pa_cons pe_int (pa_cons pe_int (pa_cons pe_int (pa_cons pe_int (pa_cons pe_int (pa_cons pe_int (pa_cons pe_int (pa_cons pe_int (pa_cons pe_int pa_nil)))))))))))) pa_nil))))
          (pss_cons (ps_if (pt_mid (PW.pt (pw_and (pt_cmpR op_eq (pv 8) pe_int (nomark _)) (pw_and1 (pt_not (pt_val (pe_call G_Lput (hr.mono (by decide)) rfl T.g_Lput T.F_Lput.kp T.b_Lput .nil pass0 (pa_cons (pv 0) (pa_cons (pv 5) (pa_cons (pv 2) (pa_cons (pe_call G_Ldraw (hr.mono (by decide)) rfl T.g_Ldraw T.F_Ldraw.kp T.b_Ldraw .nil pass0 (pa_cons (pv 0) (pa_cons pe_int pa_nil))) (pa_cons (pv 1) pa_nil))))))))))))
            (pss_one (ps_ret pe_bl))
            pss_nil)
          (pss_cons (ps_mid (ps_if (pt_cmpR op_eq (pv 8) pe_int (nomark _))
            (pss_cons (ps_set (i := 9) sc_Lright.nd rfl (Or.inr rfl) (pe_call G_Ldraw (hr.mono (by decide)) rfl T.g_Ldraw T.F_Ldraw.kp T.b_Ldraw .nil pass0 (pa_cons (pv 0) (pa_cons pe_int pa_nil))))
            (pss_cons (ps_expr (pe_meth (pv 5) T.cl_Stations T.me_Stations_woken G_Stations_woken (hr.mono (by decide)) T.b_Stations_woken .nil pass0 (pa_cons (pv 9) pa_nil)))
            (pss_one (ps_forS PassesOwn.never rfl (pi_list (pe_callB (call_sortedDI rfl) (by rfl) T.m_sorted (by decide +kernel) (pa_cons (pv 2) pa_nil))) (pg_name (i := 10) sc_Lright.nd rfl (Or.inr rfl))
              (pss_cons (ps_asg (pe_dget (hu_of hr) (pv 2) (pv 10) (fun _ _ => rfl)) (pg_tup rfl (pgs_cons (pg_name (i := 11) sc_Lright.nd rfl (Or.inl rfl)) (pgs_cons (pg_name (i := 12) sc_Lright.nd rfl (Or.inl rfl)) pgs_nil))))
              (pss_one (ps_dput (hu_of hr) (pv 2) (pv 10) (pe_tup (pa_cons (pv 11) (pa_cons (pe_lc (own := [("_law_one", 13)]) (g := gName 13)  rfl sc_Lright.nd (pi_list (pv 12)) (blkOk_by (N := ["_law_pot_here", "_law_most", "_law_own", "_law_numbers", "_law_turn", "_law_rows", "_law_whims", "_law_aside", "_law_way", "_law_place", "_law_number", "_law_reads", "_law_waits", "_law_one", "_law_gone"]) (sc := defScope s_Lright) (by decide +kernel)) (fun _ _ _ _ _ => pg_name (i := 13) sc_Lright.nd rfl (Or.inl rfl)) (fun _ _ _ _ _ => pts_one (pt_cmpR op_ne (pv 13) (pv 9) (nomark _))) (fun _ _ _ _ _ => (pv 13))) pa_nil))) rfl)))))))
            pss_nil))
          (pss_cons (ps_if (pt_mid (PW.pt (pw_and (pt_cmpR op_eq (pv 8) pe_int (nomark _)) (pw_and1 (pt_not (pt_val (pe_call G_Lchosen_right (hr.mono (by decide)) rfl T.g_Lchosen_right T.F_Lchosen_right.kp T.b_Lchosen_right .nil pass0 (pa_cons (pv 0) (pa_cons (pv 5) (pa_cons (pv 2) (pa_cons (pv 6) (pa_cons (pv 3) pa_nil))))))))))))
            (pss_one (ps_ret pe_bl))
            pss_nil)
          (pss_cons (ps_mid (ps_if (PW.pt (pw_and (pt_cmpR op_eq (pv 8) pe_int (nomark _)) (pw_and1 (pt_cmpR (op_neE hr.units) (pv 2) pe_dnewK (nomark _)))))
            (pss_cons (ps_set (i := 10) sc_Lright.nd rfl (Or.inr rfl) (pe_call G_Lpick (hr.mono (by decide)) rfl T.g_Lpick T.F_Lpick.kp T.b_Lpick .nil pass0 (pa_cons (pv 0) (pa_cons (pe_callB (call_sortedDI rfl) (by rfl) T.m_sorted (by decide +kernel) (pa_cons (pv 2) pa_nil)) pa_nil))))
            (pss_one (ps_if (pt_cmpR (op_neS hr.units) (pe_meth (pv 5) T.cl_Stations T.me_Stations_picked G_Stations_picked (hr.mono (by decide)) T.b_Stations_picked .nil pass0 (pa_cons (pv 10) pa_nil)) (pe_ix ix_tup (pe_dpop1 (pv 2) (pv 10) ⟨by rfl, by rfl, by rfl, by rfl⟩) pe_int (fun _ _ => rfl)) (nomark _))
              (pss_one (ps_ret pe_bl))
              pss_nil)))
            pss_nil))
          (pss_cons (ps_mid (ps_if (pt_cmpR op_eq (pv 8) pe_int (nomark _))
            (pss_cons (ps_set (i := 10) sc_Lright.nd rfl (Or.inr rfl) (pe_call G_Ldraw (hr.mono (by decide)) rfl T.g_Ldraw T.F_Ldraw.kp T.b_Ldraw .nil pass0 (pa_cons (pv 0) (pa_cons pe_int pa_nil))))
            (pss_cons (ps_setLc (i := 14) (own := [("_law_one", 13)]) (g := gName 13)  rfl sc_Lright.nd rfl rfl (sw_true rfl rfl rfl (by decide +kernel)) (pi_list (pe_callB (call_sortedDI rfl) (by rfl) T.m_sorted (by decide +kernel) (pa_cons (pv 2) pa_nil))) (blkOk_by (N := ["_law_pot_here", "_law_most", "_law_own", "_law_numbers", "_law_turn", "_law_rows", "_law_whims", "_law_aside", "_law_way", "_law_place", "_law_number", "_law_reads", "_law_waits", "_law_one", "_law_gone"]) (sc := defScope s_Lright) (by decide +kernel)) (fun _ _ _ _ _ => pg_name (i := 13) sc_Lright.nd rfl (Or.inl rfl)) (fun _ _ _ _ _ => pts_one (pt_cmpR op_ge (pv 13) (pv 10) (nomark _))) (fun _ _ _ _ _ => (pv 13)))
            (pss_cons (ps_forS PassesOwn.never rfl (pi_list (pv 14)) (pg_name (i := 13) sc_Lright.nd rfl (Or.inl rfl))
              (pss_one (ps_expr (pe_dpop1 (pv 2) (pv 13) ⟨by rfl, by rfl, by rfl, by rfl⟩))))
            (pss_one (ps_if (pt_cmpR (op_neS hr.units) (pe_meth (pv 5) T.cl_Stations T.me_Stations_dropped G_Stations_dropped (hr.mono (by decide)) T.b_Stations_dropped .nil pass0 (pa_cons (pv 10) pa_nil)) (pe_revL (pv 14)) (nomark _))
              (pss_one (ps_ret pe_bl))
              pss_nil)))))
            pss_nil))
          (pss_cons (ps_mid (ps_if (pt_cmpR op_eq (pv 8) pe_int (nomark _))
            (pss_one (ps_set (i := 7) sc_Lright.nd rfl (Or.inl rfl) (pe_tup (pa_cons (pe_meth0 (pv 5) T.cl_Stations T.me_Stations_copy G_Stations_copy (hr.mono (by decide)) T.b_Stations_copy .nil pass0) (pa_cons (pe_callTy call_dictD (by rfl) T.m_dict (by decide +kernel) (pa_cons (pv 2) pa_nil)) pa_nil)))))
            pss_nil))
          (pss_one (ps_if (pt_not (pt_val (pe_call G_Lseen (hr.mono (by decide)) rfl T.g_Lseen T.F_Lseen.kp T.b_Lseen .nil pass0 (pa_cons (pv 5) (pa_cons (pv 2) pa_nil)))))
            (pss_one (ps_ret pe_bl))
            pss_nil))))))))))
        (pss_one (ps_ret (pe_or (pe_cmpR op_isN (pv 7) pe_non (nomark _)) (pe_one (pe_call G_Lseen (hr.mono (by decide)) rfl T.g_Lseen T.F_Lseen.kp T.b_Lseen .nil pass0 (pa_cons (pe_ix ix_tup (pv 7) pe_int (fun _ _ => rfl)) (pa_cons (pe_ix ix_tup (pv 7) pe_int (fun _ _ => rfl)) pa_nil))))))))))), ?_⟩
    clear G_Ldraw G_Stations_init G_Whims_init G_Lpick G_Lput G_Stations_woken G_Lchosen_right G_Stations_picked G_Stations_dropped G_Stations_copy G_Lseen
    clear hr
    walk_at "go"
    intro m0 H2 m00 m01 hO
    walk_at "go"
    refine fun o fo => ?_
    walk_at "st"
    walk_at "go"
    
    intro d9 H3 d90 d91 hO
    walk_at "go"
    refine ⟨for_range (n := d9.toNat) (fun i σ H' => Stop (∃ (nl : Addr) (t4 : Option V) (ws : List Int), σ = [some (.ref a), some (.int (1 + m0)), some (.ref o), some (.ref nl), t4, none, none, none, none, none, none, none, none, none, none] ∧ ws.length = i ∧ (∀ z ∈ ws, 0 ≤ z ∧ z < 40) ∧ Own K H' (pt a ++ ((nl, .raw (.lst (ws.map V.int))) :: (o, .raw (.dK [])) :: [])) [])) ⟨⟨_, none, [], rfl, rfl, (fun _ h => nomatch h), ?_⟩⟩ (fun i σ H' hi h => ?_) (fun σ H' h => ?_)⟩
    · walk_at "fin"
    · clear hO
      obtain ⟨nl, t4, ws, rfl, hl, hb, hO⟩ := h.h
      clear h
      have sz : (ws.map V.int).length < sizeLine := size_lt (by simp; omega)
      walk_at "go"
      intro z H3 z0 z1 hO
      walk_at "go"
      refine ⟨⟨nl, _, ws ++ [z], rfl, by simp; omega, fun y hy => ?_, ?_⟩⟩
      · rcases List.mem_append.mp hy with hy | hy
        · exact hb y hy
        · simp at hy; subst hy; exact ⟨z0, z1⟩
      · rw [List.map_append]
        walk_at "fin"
    clear hO
    obtain ⟨nl, t4, ws, rfl, hwl, hwb, hO⟩ := h.h
    clear h
    have hws : ws.length ≤ 200 := by omega
    have hwb2 : ∀ z ∈ ws, 0 ≤ z ∧ z ≤ 1000000 := fun z hz => by have := hwb z hz; omega
    walk_at "go"
    walk_at "mk"
    walk_at "go"
    intro d H4 hO
    generalize p1 = sx at *
    generalize p2 = sdx at *
    walk_at "go"
    walk_at "mk"
    walk_at "go"
    intro wn H5 P5 sp5 hO
    walk_at "go"
    intro dr H6 dr0 dr1 hO
    walk_at "go"
    refine ⟨for_range (n := (10 + dr).toNat) (fun i σ H' => Stop (∃ t4 t8, Iv K T.C_Stations T.C_Whims a (1 + m0) i t4 t8 σ H')) ⟨⟨_, none, ⟨sx, sdx, d, o, p1, p2, wn, nl, ws, 0, [], .non, none, none, none, none, none, none, [], P5, rfl, ⟨List.nodup_nil, (fun _ h => nomatch h), Nat.zero_le _, (fun _ h => nomatch h)⟩, Nat.le_refl _, hws, ⟨.inl rfl⟩, ?_⟩⟩⟩ (fun i σ H' hi h => ?_) (fun σ H' h => ?_)⟩
    · show Own K H6 (pt a ++ (stn T.C_Stations sx sdx d (1 + m0) [] ++ ((o, .D (ik (sD []))) :: (wm T.C_Whims p1 p2 wn ws 0 ++ ((nl, .raw (.lst (ws.map V.int))) :: []))))) P5
      walk_at "fin"
      exact Dv.nil
    · clear hO hws hwl hwb hwb2
      obtain ⟨t4, t8, ⟨x, dx, d, o, wx, dw, wn, nl, ws, t, rs, v7, t9, t10, t11, t12, t13, t14, B, P, rfl, hL, hln, hws, hA, hO⟩⟩ := h.h
      clear h
      have hi34 : i < 34 := by omega
      have hL40 : (rs.length : Int) < 40 := by omega
      rw [Int.zero_add]
      walk_at "go"
      intro j v H4 hj hO
      obtain ⟨w, rfl, hw⟩ : ∃ z, v = V.int z ∧ 0 ≤ z ∧ z < 6 := by
        rcases j with _ | _ | _ | _ | _ | _ | _ | _ | _ | _ | _ | j <;> simp at hj <;> subst hj <;> exact ⟨_, rfl, by omega, by omega⟩
      replace hO := Own.sub (L' := pt a ++ (stn T.C_Stations x dx d (1 + m0) rs ++ ((o, .D (ik (sD rs))) :: (wm T.C_Whims wx dw wn ws t ++ ((nl, .raw (.lst (ws.map V.int))) :: B))))) hO (by walk_at "sb") Ps.refl
      walk_at "go"
      refine Stop.mk ⟨fun b H' => Stop (b = false ∧ ∃ (rs' : List SR) (P' : List Pf), Sw rs' ∧ rs'.length ≤ i + 1 ∧ Ps P P' ∧ Own K H' (pt a ++ (stn T.C_Stations x dx d (1 + m0) rs' ++ ((o, .D (ik (sD rs'))) :: (wm T.C_Whims wx dw wn ws t ++ ((nl, .raw (.lst (ws.map V.int))) :: B))))) P'), ?_, fun b H9 hM => ?_⟩
      · walk_at "go"
        refine iteD (fun hw0 => ?_) (fun hw0 => ?_)
        · walk_at "go"
          intro n H5 n0 n1 hO
          walk_at "go"
          intro rs' H7 P7 hL' hl' sp7 hO
          walk_at "go"
          refine ⟨⟨rfl, rs', P7, hL', by omega, sp7, ?_⟩⟩
          walk_at "fin"
        · exact ⟨⟨rfl, rs, P, hL, by omega, Ps.refl, hO⟩⟩
      clear hO hL40 hL hln
      obtain ⟨rfl, rs, P7, hL, hln, sp7, hO⟩ := hM.h
      clear hM
      replace hA := hA.mono sp7
      clear sp7
      walk_at "go"
      refine Stop.mk ⟨Iv K T.C_Stations T.C_Whims a (1 + m0) (i + 1) (some (.int i)) (some (.int w)), ?_, fun σ' H9 hM => ?_⟩
      · walk_at "go"
        refine iteD (fun hw0 => ?_) (fun hw0 => ?_)
        · walk_at "go"
          intro z H5 z0 z1 hO
          have hz48 : 0 ≤ z ∧ z < 48 := by omega
          have hnd := hL.nd
          have hl40 := hL.le
          have hl1000 : rs.length ≤ 1000 := by omega
          have hw100 : ∀ r ∈ rs, r.2.2.length ≤ 100 := fun r hr => Nat.le_trans (hL.rd r hr).2 (by decide)
          walk_at "go"
          intro d2 H6 P6 sp6 hO
          replace hO : Own K H6 (stn T.C_Stations x dx d2 (1 + m0) (rs.map (wk z)) ++ _) P6 := hO
          obtain ⟨kvs, hk, o1⟩ := hO.openD (a := o) (by walk_at "mem")
          replace hO := o1 _ (by walk_at "setat")
          clear o1
          have ek := ik_keys hk
          rw [sD_keys] at ek
          have hz64 : (skeys rs).length < 64 := by rw [skeys, List.length_map]; omega
          walk_at "go"
          intro ys q hp hs fq
          obtain rfl := srt_of hp hs
          walk_at "st"
          obtain ⟨ks, hks⟩ : ∃ ks, ks = srt (skeys rs) := ⟨_, rfl⟩
          have hkn : ks.Nodup := by rw [hks]; exact (srt_perm _).nodup_iff.mpr hnd
          have hmem : ∀ n, n ∈ ks ↔ n ∈ skeys rs := fun n => by rw [hks, srt_mem]
          rw [← hks] at hO
          have hO0 : Own K _ (pt a ++ (stn T.C_Stations x dx d2 (1 + m0) (rs.map (wk z)) ++ ((q, .raw (.lst (ks.map V.int))) :: (o, .D (ik (sD (rs.map fun r => if r.1 ∈ ks.take 0 then wk z r else r)))) :: (wm T.C_Whims wx dw wn ws t ++ ((nl, .raw (.lst (ws.map V.int))) :: B))))) P6 := Own.sub hO (by
            have e0 : (rs.map fun r => if r.1 ∈ ks.take 0 then wk z r else r) = rs := by simp
            rw [e0]
            walk_at "sbL"
            · exact hk
            · exact Dv.of (by walk_at "mem")) (Ps.skip Ps.refl)
          clear hO
          have hO := hO0
          clear hO0 hk ek hp hs
          walk_at "go"
          refine ⟨for_list (xs := ks.map V.int) (fun j σ H' => Stop (∃ (t10 t11 t12 : Option V) (P' : List Pf), σ = [some (.ref a), some (.int (1 + m0)), some (.ref o), some (.ref nl), some (.int i), some (.ref x), some (.ref wx), some v7, some (.int w), some (.int z), t10, t11, t12, t13, t14] ∧ Ps P6 P' ∧
            Own K H' (pt a ++ (stn T.C_Stations x dx d2 (1 + m0) (rs.map (wk z)) ++ ((q, .raw (.lst (ks.map V.int))) :: (o, .D (ik (sD (rs.map fun r => if r.1 ∈ ks.take j then wk z r else r)))) :: (wm T.C_Whims wx dw wn ws t ++ ((nl, .raw (.lst (ws.map V.int))) :: B))))) P')) ⟨⟨t10, t11, t12, P6, rfl, Ps.refl, hO⟩⟩ (fun j σ H' hi h => ?_) (fun j v σ H' hv h => ?_) (fun σ H' h => ?_)⟩
          · obtain ⟨t10, t11, t12, P', rfl, sp', hO⟩ := h.h
            exact SqL.of (hO.raw (by walk_at "mem"))
          · clear hO
            obtain ⟨t10, t11, t12, P', rfl, sp', hO⟩ := h.h
            clear h
            obtain ⟨n, rfl, hn⟩ := int_get hv
            have hnj : n ∉ ks.take j := not_take hkn hn
            have hkj : skeys (rs.map fun r => if r.1 ∈ ks.take j then wk z r else r) = skeys rs := by
              rw [skeys, skeys, List.map_map]
              refine List.map_congr_left fun r _ => ?_
              simp only [Function.comp]
              split <;> rfl
            have hin : n ∈ skeys (rs.map fun r => if r.1 ∈ ks.take j then wk z r else r) := by rw [hkj]; exact (hmem n).mp (List.mem_of_getElem? hn)
            obtain ⟨r, hf, hr, e⟩ := sfind hin
            have hrl : r.2.2.length ≤ 3 := by
              obtain ⟨u, hu, eu⟩ := List.mem_map.mp hr
              rw [← eu]
              split
              · exact Nat.le_trans (List.length_filter_le _ _) (hL.rd u hu).2
              · exact (hL.rd u hu).2
            obtain ⟨kvs, hk, o1⟩ := hO.openD (a := o) (by walk_at "mem")
            replace hO := o1 _ (by walk_at "setat")
            clear o1
            have szk : kvs.length < sizeLine := size_lt (by have := ik_len hk; rw [sD_len, List.length_map] at this; omega)
            obtain ⟨v, hv⟩ := valV_of hk (s_val hf)
            have dv := Dv.val (K := K) (P := .dp (kvs.map Prod.snd) ((ik (sD (rs.map fun r => if r.1 ∈ ks.take j then wk z r else r))).map Prod.snd) :: P') (Dv.of List.mem_cons_self) hk hv (s_val hf)
            obtain ⟨tt, aa, bb, rfl, hO⟩ := hO.opn2 dv
            obtain ⟨lb, rfl, hlb⟩ := opnLI (hO.pd1 (v := bb) (d := lD r.2.2) (by walk_at "mem"))
            walk_at "go"
            intro D hD
            refine lc_siftW r.2.2 V.int (fun w => decide (w ≠ z)) (walk_ints (K := K) (a := lb)) hO hD (by omega) (fun H L' P' s t h => sqLI (h.pd1 (t _ (by walk_at "mem")))) (fun i w v H9 H' P' ys Qn Qy2 hz hv sp hO kn ky2 => ?_) (fun H6 P8 sp8 hO => ?_)
            · obtain ⟨rfl, hv⟩ := hv
              rw [List.getElem?_map, hz] at hv
              injection hv with hv
              subst hv
              walk_at "go"
              refine iteN (fun h => ?_) (fun h => ?_)
              · walk_at "go"
                refine ky2 (decide_eq_true (fun e => h (congrArg V.int e))) _ _ ?_ hO
                walk_at "ps"
              · refine kn (decide_eq_false (fun e => e (V.int.inj h))) _ _ ?_ hO
                walk_at "ps"
            · have da : Dv1 K P8 aa (lD r.2.1) := Dv1.of (sp8 _ (by walk_at "mem"))
              have dk : Dv K P8 (kvs.map Prod.snd) ((ik (sD (rs.map fun r => if r.1 ∈ ks.take j then wk z r else r))).map Prod.snd) := Dv.of (sp8 _ (by walk_at "mem"))
              have sp9 : Ps P' P8 := fun q hq => sp8 q (List.mem_cons_of_mem _ (List.mem_cons_of_mem _ (List.mem_cons_of_mem _ (List.mem_cons_of_mem _ hq))))
              walk_at "go"
              replace hO := hO.give Pk.one
              replace hO := hO.dv1 (d := .tuple [lD r.2.1, lD (r.2.2.filter fun w => decide (w ≠ z))]) (Dv1.tup (by walk_at "mem") (Dv.cons (da.mono (Ps.skip (Ps.skip Ps.refl))) (Dv.cons (Dv1.lst (by walk_at "mem") (Dv.ints _)) Dv.nil)))
              replace hO := hO.dv (dk.mono (by walk_at "ps"))
              refine ⟨⟨_, _, _, P', rfl, sp', ?_⟩⟩
              rw [wk_put hnd hn hnj hr e]
              refine Own.sub hO ?_ (fun q hq => List.mem_cons_of_mem _ (List.mem_cons_of_mem _ (List.mem_cons_of_mem _ (List.mem_cons_of_mem _ (sp9 q hq)))))
              walk_at "sbL"
              · exact putK_fst hk _ _ _
              · exact Dv.put (Dv.of List.mem_cons_self) hk (Dv1.of (by walk_at "mem"))
          · clear hO
            obtain ⟨t10, t11, t12, P', rfl, sp', hO⟩ := h.h
            clear h
            have eE : (rs.map fun r => if r.1 ∈ ks.take (ks.map V.int).length then wk z r else r) = rs.map (wk z) := by
              refine List.map_congr_left fun r hr => ?_
              rw [List.length_map, List.take_length, if_pos ((hmem r.1).mpr (List.mem_map_of_mem hr))]
            rw [eE] at hO
            walk_at "go"
            refine ⟨x, dx, d2, o, wx, dw, wn, nl, ws, t, rs.map (wk z), v7, _, t10, t11, t12, t13, t14, B, P', rfl, hL.wk z, by rw [List.length_map]; exact hln, hws, hA.mono (fun q hq => sp' q (sp6 q hq)), ?_⟩
            walk_at "fin"
        · walk_at "go"
          exact ⟨x, dx, d, o, wx, dw, wn, nl, ws, t, rs, v7, t9, t10, t11, t12, t13, t14, B, P7, rfl, hL, hln, hws, hA, hO⟩
      clear hO hA hln hL hws
      obtain ⟨x, dx, d, o, wx, dw, wn, nl, ws, t, rs, v7, t9, t10, t11, t12, t13, t14, B, P, rfl, hL, hln, hws, hA, hO⟩ := hM
      walk_at "go"
      refine Stop.mk ⟨fun b H' => Stop (b = false ∧ ∃ (t' : Nat) (P' : List Pf), Ps P P' ∧ Own K H' (pt a ++ (stn T.C_Stations x dx d (1 + m0) rs ++ ((o, .D (ik (sD rs))) :: (wm T.C_Whims wx dw wn ws t' ++ ((nl, .raw (.lst (ws.map V.int))) :: B))))) P'), ?_, fun b H9 hM => ?_⟩
      · walk_at "go"
        refine iteD (fun hw0 => ?_) (fun hw0 => ?_)
        · walk_at "go"
          intro t' H7 P7 sp7 hO
          walk_at "go"
          exact ⟨⟨rfl, t', P7, sp7, hO⟩⟩
        · exact ⟨⟨rfl, t, P, Ps.refl, hO⟩⟩
      clear hO
      obtain ⟨rfl, t', P7, sp7, hO⟩ := hM.h
      clear hM
      replace hA := hA.mono sp7
      clear sp7
      walk_at "go"
      refine Stop.mk ⟨Iv K T.C_Stations T.C_Whims a (1 + m0) (i + 1) (some (.int i)) (some (.int w)), ?_, fun σ' H9 hM => ?_⟩
      · have hl40 := hL.le
        have hl1000 : rs.length ≤ 1000 := by omega
        obtain ⟨kvs, hk, o1⟩ := hO.openD (a := o) (by walk_at "mem")
        replace hO := o1 _ (by walk_at "setat")
        clear o1
        have ek := ik_keys hk
        rw [sD_keys] at ek
        have hkl := congrArg List.length ek
        simp only [List.length_map] at hkl
        have hz64 : (skeys rs).length < 64 := by rw [skeys, List.length_map]; omega
        have close : ∀ (H5 : Hp) (L5 : List (Addr × Ob)), Own K H5 (L5 ++ (pt a ++ (stn T.C_Stations x dx d (1 + m0) rs ++ ((o, .raw (.dK kvs)) :: (wm T.C_Whims wx dw wn ws t' ++ ((nl, .raw (.lst (ws.map V.int))) :: B)))))) (.dp (kvs.map Prod.snd) ((ik (sD rs)).map Prod.snd) :: P7) →
            Own K H5 (pt a ++ (stn T.C_Stations x dx d (1 + m0) rs ++ ((o, .D (ik (sD rs))) :: (wm T.C_Whims wx dw wn ws t' ++ ((nl, .raw (.lst (ws.map V.int))) :: B))))) P7 := fun H5 L5 hO => by
          refine Own.sub hO ?_ (Ps.skip Ps.refl)
          refine Sb.skipB ?_
          walk_at "sbL"
          · exact hk
          · exact Dv.of (by walk_at "mem")
        walk_at "go"
        refine iteD (fun hw0 => ?_) (fun hw0 => ?_)
        · walk_at "go"
          refine fun pe fe => ?_
          walk_at "st"
          walk_at "go"
          cases hkv : kvs.isEmpty with
          | true =>
            walk_at "go"
            exact ⟨x, dx, d, o, wx, dw, wn, nl, ws, t', rs, v7, t9, t10, t11, t12, t13, t14, B, P7, rfl, hL, hln, hws, hA, close _ [_] hO⟩
          | false =>
            have hne : skeys rs ≠ [] := fun e => by
              rw [e] at hkl
              rw [List.eq_nil_of_length_eq_zero hkl] at hkv
              exact nomatch hkv
            have hp2 : ((srt (skeys rs)).map V.int).length ≤ 1000 := by rw [List.length_map, srt_len]; omega
            have hp1 : 0 < ((srt (skeys rs)).map V.int).length := by rw [List.length_map, srt_len]; exact List.length_pos_iff.mpr hne
            walk_at "go"
            intro ys p hp hs fp
            obtain rfl := srt_of hp hs
            walk_at "go"
            intro j v H5 hj hO
            obtain ⟨n, rfl, hn⟩ := int_get hj
            have hm : n ∈ skeys rs := srt_mem.mp (List.mem_of_getElem? hn)
            obtain ⟨r, hf, hr, e⟩ := sfind hm
            have hn0 : 0 ≤ n := e ▸ hL.nn r hr
            have vd := s_val hf
            obtain ⟨v, hv⟩ := valV_of hk vd
            have dv := Dv.val (K := K) (P := .dp (kvs.map Prod.snd) ((ik (sD rs)).map Prod.snd) :: P7) (Dv.of List.mem_cons_self) hk hv vd
            walk_at "go"
            intro q H7 P8 sp8 hO
            obtain ⟨tt, aa, bb, rfl, hO⟩ := hO.opn2 (dv.mono sp8)
            have a0 := at0 aa [bb]
            have S1 := sh_ints r.2.1
            walk_at "go"
            replace hO := hO.dv (Dv.of (List.mem_cons_of_mem _ (List.mem_cons_of_mem _ (List.mem_cons_of_mem _ (sp8 _ List.mem_cons_self)))))
            refine ⟨x, dx, d, o, wx, dw, wn, nl, ws, t', rs.filter (fun r => decide (r.1 ≠ n)), v7, t9, _, t11, t12, t13, t14, B, P8, rfl, hL.sub List.filter_sublist, Nat.le_trans (List.length_filter_le _ _) hln, hws, hA.mono (fun q hq => sp8 q (List.mem_cons_of_mem _ hq)), ?_⟩
            rw [← sD_drop]
            refine Own.sub hO ?_ (Ps.skip (Ps.skip (Ps.skip (Ps.skip Ps.refl))))
            walk_at "sbL"
            · exact dropK_fst _ hk
            · exact Dv.drop' (Dv.of List.mem_cons_self) hk
        · walk_at "go"
          exact ⟨x, dx, d, o, wx, dw, wn, nl, ws, t', rs, v7, t9, t10, t11, t12, t13, t14, B, P7, rfl, hL, hln, hws, hA, close _ [] hO⟩
      clear hO hA hln hL hws
      obtain ⟨x, dx, d, o, wx, dw, wn, nl, ws, t, rs, v7, t9, t10, t11, t12, t13, t14, B, P, rfl, hL, hln, hws, hA, hO⟩ := hM
      walk_at "go"
      refine Stop.mk ⟨Iv K T.C_Stations T.C_Whims a (1 + m0) (i + 1) (some (.int i)) (some (.int w)), ?_, fun σ' H9 hM => ?_⟩
      · have hl40 := hL.le
        walk_at "go"
        refine iteD (fun hw0 => ?_) (fun hw0 => ?_)
        · walk_at "go"
          intro n H5 n0 n1 hO
          obtain ⟨kvs, hk, o1⟩ := hO.openD (a := o) (by walk_at "mem")
          replace hO := o1 _ (by walk_at "setat")
          clear o1
          have ek := ik_keys hk
          rw [sD_keys] at ek
          have hz64 : (skeys rs).length < 64 := by rw [skeys, List.length_map]; omega
          have hzz : (srt (skeys rs)).length ≤ 10000 := by rw [srt_len]; omega
          walk_at "go"
          intro ys p hp hs fp
          obtain rfl := srt_of hp hs
          walk_at "go"
          intro D hD
          refine lc_siftW (srt (skeys rs)) V.int (fun z => decide (n ≤ z)) (walk_ints (K := K) (a := p)) hO hD hzz (fun H L' P' s t h => SqL.of (h.raw (s _ (by walk_at "mem")))) (fun i z v H9 H' P' ys Qn Qy hn hv sp hO kn ky => ?_) (fun H6 P6 sp6 hO => ?_)
          · obtain ⟨rfl, hv⟩ := hv
            rw [List.getElem?_map, hn] at hv
            injection hv with hv
            subst hv
            walk_at "go"
            refine iteD (fun h => ?_) (fun h => ?_)
            · walk_at "go"
              refine ky (decide_eq_true h) _ _ ?_ hO
              walk_at "ps"
            · refine kn (decide_eq_false h) _ _ ?_ hO
              walk_at "ps"
          · obtain ⟨g, hg⟩ : ∃ g, g = (srt (skeys rs)).filter fun z => decide (n ≤ z) := ⟨_, rfl⟩
            have hmem : ∀ z, z ∈ g ↔ z ∈ skeys rs ∧ n ≤ z := fun z => by rw [hg, List.mem_filter, srt_mem, decide_eq_true_iff]
            have hgn : g.Nodup := by rw [hg]; exact ((srt_perm _).nodup_iff.mpr hL.nd).filter _
            rw [← hg] at hO
            have e0 : (rs.filter fun r => decide (r.1 ∉ g.take 0)) = rs := by simp
            have hO0 : Own K H6 (pt a ++ (stn T.C_Stations x dx d (1 + m0) rs ++ ((D, .raw (.lst (g.map V.int))) :: (o, .D (ik (sD (rs.filter fun r => decide (r.1 ∉ g.take 0))))) :: (wm T.C_Whims wx dw wn ws t ++ ((nl, .raw (.lst (ws.map V.int))) :: B))))) P6 := by
              rw [e0]
              refine Own.sub (hO.dv (Dv.of (sp6 _ List.mem_cons_self))) ?_ (Ps.skip Ps.refl)
              walk_at "sbL"
              · exact hk
              · exact Dv.of (by walk_at "mem")
            clear hO
            have hO := hO0
            clear hO0 e0
            walk_at "go"
            refine ⟨for_list (xs := g.map V.int) (fun j σ H' => Stop (∃ (t13 : Option V) (P7 : List Pf), σ = [some (.ref a), some (.int (1 + m0)), some (.ref o), some (.ref nl), some (.int i), some (.ref x), some (.ref wx), some v7, some (.int w), t9, some (.int n), t11, t12, t13, some (.ref D)] ∧ Ps P6 P7 ∧
              Own K H' (pt a ++ (stn T.C_Stations x dx d (1 + m0) rs ++ ((D, .raw (.lst (g.map V.int))) :: (o, .D (ik (sD (rs.filter fun r => decide (r.1 ∉ g.take j))))) :: (wm T.C_Whims wx dw wn ws t ++ ((nl, .raw (.lst (ws.map V.int))) :: B))))) P7)) ⟨⟨t13, P6, rfl, Ps.refl, hO⟩⟩ (fun j σ H' hi h => ?_) (fun j v σ H' hv h => ?_) (fun σ H' h => ?_)⟩
            · obtain ⟨t13, P7, rfl, sp7, hO⟩ := h.h
              exact SqL.of (hO.raw (by walk_at "mem"))
            · clear hO
              obtain ⟨t13, P7, rfl, sp7, hO⟩ := h.h
              clear h
              obtain ⟨z, rfl, hz2⟩ := int_get hv
              have hzm : z ∈ g := List.mem_of_getElem? hz2
              have nd : z ∉ g.take j := not_take hgn hz2
              have hin : z ∈ skeys (rs.filter fun r => decide (r.1 ∉ g.take j)) := by
                obtain ⟨r, hr, e⟩ := List.mem_map.mp ((hmem z).mp hzm).1
                exact List.mem_map.mpr ⟨r, List.mem_filter.mpr ⟨hr, decide_eq_true (by rw [e]; exact nd)⟩, e⟩
              obtain ⟨r, hf, hr, e⟩ := sfind hin
              obtain ⟨kvs3, hk3, o3⟩ := hO.openD (a := o) (by walk_at "mem")
              replace hO := o3 _ (by walk_at "setat")
              clear o3
              obtain ⟨v3, hv3⟩ := valV_of hk3 (s_val hf)
              walk_at "go"
              refine ⟨⟨_, P7, rfl, sp7, ?_⟩⟩
              have e3 : ik (sD (rs.filter fun r => decide (r.1 ∉ g.take (j + 1)))) = dropD (ik (sD (rs.filter fun r => decide (r.1 ∉ g.take j)))) (Sum.inl z) := by
                rw [sD_drop, List.filter_filter]
                congr 2
                refine List.filter_congr fun r _ => ?_
                rw [List.take_add_one, hz2]
                simp [not_or, And.comm]
              rw [e3]
              refine Own.sub hO ?_ (Ps.skip Ps.refl)
              walk_at "sbL"
              · exact dropK_fst _ hk3
              · exact Dv.drop' (Dv.of (by walk_at "mem")) hk3
            · clear hO
              obtain ⟨t13, P7, rfl, sp7, hO⟩ := h.h
              clear h
              have e4 : (rs.filter fun r => decide (r.1 ∉ g.take (g.map V.int).length)) = rs.filter fun r => decide (r.1 < n) := by
                refine List.filter_congr fun r hr => ?_
                rw [List.length_map, List.take_length]
                refine decide_eq_decide.mpr ?_
                rw [hmem]
                have : r.1 ∈ skeys rs := List.mem_map_of_mem hr
                constructor
                · intro h; apply Int.lt_of_not_ge; intro h2; exact h ⟨this, h2⟩
                · intro h h2; omega
              rw [e4] at hO
              have hl1000 : rs.length ≤ 1000 := by omega
              have hnd := hL.nd
              walk_at "go"
              intro q H7 P8 sp8 hO
              rw [← srt_filter, ← hg] at hO
              have S1 := sh_ints g.reverse
              walk_at "go"
              rw [← List.map_reverse] at hO
              walk_at "go"
              refine ⟨x, dx, d, o, wx, dw, wn, nl, ws, t, rs.filter (fun r => decide (r.1 < n)), v7, t9, _, t11, t12, _, _, B, P8, rfl, hL.sub List.filter_sublist, Nat.le_trans (List.length_filter_le _ _) hln, hws, hA.mono (fun q hq => sp8 q (sp7 q (sp6 q (List.mem_cons_of_mem _ hq)))), ?_⟩
              walk_at "fin"
        · walk_at "go"
          exact ⟨x, dx, d, o, wx, dw, wn, nl, ws, t, rs, v7, t9, t10, t11, t12, t13, t14, B, P, rfl, hL, hln, hws, hA, hO⟩
      clear hO hA hln hL hws
      obtain ⟨x, dx, d, o, wx, dw, wn, nl, ws, t, rs, v7, t9, t10, t11, t12, t13, t14, B, P, rfl, hL, hln, hws, hA, hO⟩ := hM
      have hL40 := hL.le
      walk_at "go"
      refine Stop.mk ⟨Iv K T.C_Stations T.C_Whims a (1 + m0) (i + 1) (some (.int i)) (some (.int w)), ?_, fun σ' H9 hM => ?_⟩
      · walk_at "go"
        refine iteD (fun hw0 => ?_) (fun hw0 => ?_)
        · have hm32 : 1 ≤ 1 + m0 ∧ 1 + m0 ≤ 32 := by omega
          walk_at "go"
          intro x2 dx2 d2 H7 P7 sp7 hO
          obtain ⟨kvs, hk, o1⟩ := hO.openD (a := o) (by walk_at "mem")
          replace hO := o1 _ (by walk_at "setat")
          clear o1
          walk_at "go"
          rename_i p4 fp4 H14
          refine ⟨x, dx, d, o, wx, dw, wn, nl, ws, t, rs, .ref p, t9, t10, t11, t12, t13, t14, stn T.C_Stations x2 dx2 d2 (1 + m0) rs ++ [(p4, .D (ik (sD rs)))], .tup p [.ref x2, .ref p4] :: P7, rfl, hL, hln, hws, ⟨.inr ⟨p, x2, dx2, d2, p4, 1 + m0, rs, rfl, rfl, hL, List.mem_cons_self⟩⟩, ?_⟩
          refine Own.sub hO ?_ (Ps.cons (List.Mem.head _) (Ps.skip (Ps.skip Ps.refl)))
          walk_at "sbL"
          all_goals first | exact hk | exact Dv.of (by walk_at "mem")
        · walk_at "go"
          exact ⟨x, dx, d, o, wx, dw, wn, nl, ws, t, rs, v7, t9, t10, t11, t12, t13, t14, B, P, rfl, hL, hln, hws, hA, hO⟩
      clear hO hA hln hL hws hL40
      obtain ⟨x, dx, d, o, wx, dw, wn, nl, ws, t, rs, v7, t9, t10, t11, t12, t13, t14, B, P, rfl, hL, hln, hws, hA, hO⟩ := hM
      walk_at "go"
      intro H7 P7 sp7 hO
      walk_at "go"
      refine ⟨⟨_, _, ⟨x, dx, d, o, wx, dw, wn, nl, ws, t, rs, v7, t9, t10, t11, t12, t13, t14, B, P7, rfl, hL, hln, hws, hA.mono sp7, ?_⟩⟩⟩
      walk_at "fin"
    clear hO
    obtain ⟨t4, t8, ⟨x, dx, d, o, wx, dw, wn, nl, ws, t, rs, v7, t9, t10, t11, t12, t13, t14, B, P, rfl, hL, hln, hws, hA, hO⟩⟩ := h.h
    clear h
    rcases hA.ex with rfl | ⟨tt, x2, dx2, d2, o2, m2, rs2, rfl, rfl, hL2, ht⟩
    · walk_at "go"
      first | exact k _ | exact qbl (k _) (decide_eq_true rfl)
    · have a0 := at0 (.ref x2) [.ref o2]
      have a1 := at1 (.ref x2) (.ref o2) []
      have ht2 := hO.ptup ht
      walk_at "go"
      intro H7 P7 sp7 hO
      first | exact k _ | (walk_at "go"; exact k _)
end
end K72

set_option Elab.async false
set_option linter.all false
set_option maxRecDepth 100000
set_option maxHeartbeats 8000000

namespace K72
open PySem PySem.Spec PyProof.Rows L2 Hx 
local macro_rules | `(tactic| walk_at "sm") => `(tactic| repeat' (first | assumption | apply Hx.Same.upd | exact L2.Same.refl _ | apply same_trans'))
local macro_rules | `(tactic| walk_at "hp") => `(tactic| repeat' (first | assumption | exact upd_same | apply old_upd | apply same_at))
local macro_rules | `(tactic| walk_at "rd") => `(tactic| repeat' (first | rfl | apply Exists.intro | apply And.intro | refine iteT ?_ | refine iteF ?_ | exact upd_same | exact SqL.of (by assumption) | exact SqL.of upd_same | exact SqT.of upd_same | exact SqT.of (by assumption) | ((with_reducible show (_ : Int) < _); omega) | ((with_reducible show (_ : Int) ≤ _); omega) | (show (_ : Prop); assumption) | exact Or.inl ⟨_, by assumption, rfl⟩ | exact Or.inl ⟨rfl, _, SqL.of (by assumption)⟩ | exact Or.inl ⟨rfl, _, SqL.of upd_same⟩ | apply old_upd | apply Hx.SqL.new | apply tyl_new | apply Pot.new | exact same_at (by assumption) (by assumption) | exact Or.inl (SqL.of (by assumption)) | exact Or.inl (by assumption) | exact Or.inl (SqL.of upd_same) | exact size_le (Nat.le_of_ble_eq_true rfl) | exact Nat.le_of_ble_eq_true rfl | exact True.intro | exact Or.inl rfl | exact Or.inr rfl | (show (_ : Prop); omega) | (show (_ : Prop); dsimp only; omega) | exact mulw64 (by omega) (by omega) | exact mulw64 (by (try dsimp only); omega) (by (try dsimp only); omega)))
set_option hygiene false in
local macro_rules | `(tactic| walk_at "fl") => `(tactic| simp only [pu_Whims_numbers, pi_Whims_numbers, pu_Whims_position, pi_Whims_position, pu_Stations_many, pi_Stations_many, pu_Stations_rows, pi_Stations_rows] at hO)
local macro_rules | `(tactic| walk_at "mem") => `(tactic| ((repeat (first | exact List.Mem.head _ | apply List.Mem.tail | fail)); done))
local macro_rules | `(tactic| walk_at "setat") => `(tactic| ((repeat (first | (with_reducible exact At.head) | (with_reducible apply At.tail) | (with_reducible apply At.app) | fail)); done))
set_option hygiene false in
local macro_rules | `(tactic| walk_at "dv") => `(tactic| ((repeat' (first | exact Dv.nil | exact Dv.of (by walk_at "mem") | exact Dv.ints _ | exact Dv1.of (by walk_at "mem") | exact Dv1.int _ | exact Dv1.non | exact Dv1.bl _ | exact Dv1.str _ | (with_reducible apply Dv.cons) | refine Dv1.tup (by walk_at "mem") ?_ | refine Dv1.lst (by walk_at "mem") ?_ | (with_reducible apply Dv.app) | fail)); done))
local macro_rules | `(tactic| walk_at "ft") => `(tactic| (first | (with_reducible exact Ft.refl) | ((with_reducible apply Ft.toL); focus walk_at "dv") | ((with_reducible apply Ft.toS); focus assumption) | (with_reducible apply Ft.lst) | (with_reducible apply Ft.Le) | (with_reducible apply Ft.dK) | (with_reducible apply Ft.De) | (with_reducible apply Ft.ins) | (with_reducible apply Ft.toL) | (with_reducible apply Ft.toS) | (with_reducible apply Ft.toD) | fail))
local macro_rules | `(tactic| walk_at "sbL") => `(tactic| repeat' (first | (with_reducible exact Sb.refl _) | exact Sb.nil | (with_reducible apply Sb.cons) | (with_reducible apply Sb.app) | (with_reducible exact Pk.one) | (with_reducible exact Pk.here) | (with_reducible exact Pk.all) | (with_reducible apply Pk.skip1) | (with_reducible apply Pk.skipB) | (with_reducible apply Sb.skip) | (with_reducible apply Sb.skipB) | ((with_reducible show Ft _ _ _ _); walk_at "ft") | ((with_reducible show (_ : List _) = _); (first | rfl | (simp [List.map_set, List.map_append]; done) | fail)) | fail))
local macro_rules | `(tactic| walk_at "sb") => `(tactic| ((walk_at "sbL"); done))
local macro_rules | `(tactic| walk_at "ps") => `(tactic| ((repeat' (first | (with_reducible exact Ps.refl) | exact Ps.nil | (with_reducible apply Ps.cons) | exact List.Mem.head _ | apply List.Mem.tail | (with_reducible apply Ps.skip) | fail)); done))
set_option hygiene false in
local macro_rules | `(tactic| walk_at "at") => `(tactic| first | assumption | exact Own.raw hO (by walk_at "mem") | exact Own.ptup hO (by walk_at "mem") | exact Own.plst hO (by walk_at "mem") | fail)
set_option hygiene false in
local macro_rules | `(tactic| walk_at "st") => `(tactic| (rw [upd_mkO hO]; generalize e : updX _ _ _ = H1; (first | ((apply Own.cset hO e); (focus walk_at "setat"); (try clear hO e); intro hO) | ((apply Own.cnewT hO e); (focus assumption); (try clear hO e); intro hO) | ((apply Own.cnew hO e); (focus assumption); (try clear hO e); intro hO) | fail)))
set_option hygiene false in
local macro_rules | `(tactic| walk_at "mk") => `(tactic| (intro p1 p2 f1 f2 f3; rw [upd_mkO hO]; generalize e : upd (updX _ _ _) _ _ = H1; apply Own.cmake hO f1 f2 f3 e; (try clear hO e); intro hO))
set_option hygiene false in
local macro_rules | `(tactic| walk_at "own") => `(tactic| (first | ((apply Own.sub hO); (focus walk_at "sb"); (focus walk_at "ps")) | ((apply Own.sub hF); (focus walk_at "sb"); (focus walk_at "ps")) | fail))
set_option hygiene false in
local macro_rules | `(tactic| walk_at "fin") => `(tactic| (refine Own.sub hO ?_ (by walk_at "ps"); walk_at "sbL"))
set_option hygiene false in
local macro_rules | `(tactic| walk_at "g1") => `(tactic| (first
 | ((with_reducible show (_ : Option HO) = _); walk_at "at")
 | ((with_reducible show (_ : Int) < _); omega) | ((with_reducible show (_ : Int) ≤ _); omega)
 | ((with_reducible show (_ : Nat) < _); (first | assumption | exact Nat.le_of_ble_eq_true rfl | exact size_lt (Nat.le_of_ble_eq_true rfl) | omega | (simp; done) | (simp; omega) | fail))
 | ((with_reducible show (_ : Nat) ≤ _); (first | assumption | exact Nat.le_of_ble_eq_true rfl | exact size_le (Nat.le_of_ble_eq_true rfl) | omega | (simp; done) | (simp; omega) | fail))
 | ((with_reducible show Own _ _ _ _); (first | walk_at "own" | (walk_at "st"; walk_at "own") | fail))
 | ((with_reducible show SqL _ _ _ _); (first | assumption | exact SqL.of (by walk_at "at") | fail))
 | ((with_reducible show SqT _ _ _ _); (first | assumption | exact hO.psq (by walk_at "mem") | exact SqT.of (by walk_at "at") | fail))
  | ((with_reducible show Cls _ _); exact Txt.cl_Whims T) | ((with_reducible show NoAttr _ _ _); exact Txt.n_Whims_numbers T) | (with_reducible exact gt_Whims_numbers) | ((with_reducible show NoAttr _ _ _); exact Txt.n_Whims_position T) | (with_reducible exact gt_Whims_position) | ((with_reducible show Cls _ _); exact Txt.cl_Stations T) | ((with_reducible show NoAttr _ _ _); exact Txt.n_Stations_many T) | (with_reducible exact gt_Stations_many) | ((with_reducible show NoAttr _ _ _); exact Txt.n_Stations_rows T) | (with_reducible exact gt_Stations_rows)  | ((with_reducible show V.ref _ = V.ref _); (first | rfl | fail))
 | ((with_reducible show DGet _ _ _ _); (first | exact DGet.ki (by walk_at "at") (by assumption) | exact DGet.kiF (by walk_at "at") (by assumption) | fail))
 | ((with_reducible show DPut _ _ _ _ _); exact DPut.ki (by walk_at "at") (by assumption))
 | ((with_reducible show Rd _ _ _); (first | exact Or.inl (by walk_at "at") | exact Or.inr ⟨_, by walk_at "at"⟩ | fail))
 | ((with_reducible show (∃ _ : List (Key × V), _) ∨ _); refine Or.inl ⟨_, by walk_at "at", ?_⟩)
 | ((with_reducible show Dv _ _ _ _); focus walk_at "dv") | ((with_reducible show Dv1 _ _ _ _); focus walk_at "dv")
 | ((with_reducible show IsD _ _); exact Or.inl ⟨_, Or.inl (by walk_at "at")⟩)
 | ((with_reducible show V.int _ = kV _); exact kV_int)
 | ((with_reducible show Option.isSome _ = true); (first | exact isSome_ofV (by assumption) | assumption | fail))
 | ((with_reducible show SqL _ _ _ _ ∨ SqT _ _ _ _); (first | exact Or.inl (by assumption) | exact Or.inr (by assumption) | exact Or.inl (SqL.of (by walk_at "at")) | exact Or.inr (SqT.of (by walk_at "at")) | fail))
 | ((with_reducible show Dp _ _ _ _); (first | assumption | exact hO.dpL (by walk_at "mem") | exact .lst (SqL.of (by walk_at "at")) (hO.all (by walk_at "dv")) | exact hO.one (by walk_at "dv") | fail))
 | ((with_reducible show TruV _ _ _ _); (first | exact Or.inl ⟨_, SqL.of (by walk_at "at"), rfl⟩ | exact Or.inr (Or.inr ⟨_, by walk_at "at", rfl⟩) | exact Or.inr (Or.inl ⟨_, SqT.of (by walk_at "at"), rfl⟩) | fail))
 | ((with_reducible show RgOk _ _); exact RgOk.of_le (by omega) (by omega) (by omega) (by omega))
 | rfl | (with_reducible assumption) | apply And.intro | apply Exists.intro | refine iteT ?_ | refine iteF ?_
 | (walk_at "st"; (try walk_at "fl"))
 | ((with_reducible show ∀ _ : Addr, _ = none → _); (fail_if_success (with_reducible show ∀ _ : Addr, _ = none → ∃ _ : Nat → Nat → Hp → Prop, _)); intro p fp; walk_at "st")
 | (refine Or.inl ⟨SqL.of (by walk_at "at"), ?_⟩) | (refine Or.inr ⟨SqT.of (by walk_at "at"), ?_⟩) | exact Or.inl ⟨_, by walk_at "at", rfl⟩ | exact Or.inl ⟨rfl, _, SqL.of (by walk_at "at")⟩ | exact tyl_of (by walk_at "at") | exact Or.inl (SqL.of (by walk_at "at")) | exact Or.inr (SqT.of (by walk_at "at")) | exact Or.inl (by walk_at "at") | exact size_le (Nat.le_of_ble_eq_true rfl) | exact Nat.le_of_ble_eq_true rfl | exact True.intro | exact Or.inl rfl | exact Or.inr rfl | (show (_ : Prop); assumption) | (show (_ : Prop); omega) | (show (_ : Prop); dsimp only; omega) | exact mulw64 (by omega) (by omega) | exact mulw64 (by (try dsimp only); omega) (by (try dsimp only); omega) | fail))
local macro_rules | `(tactic| walk_at "go") => `(tactic| repeat walk_at "g1")

section
variable {P : Program} {w : World} {K : PySem.W.Frag} {mg : Str → Option Value} {base : Heap}
def sp_law (K : PySem.W.Frag) : Sp := fun vs H Q _ => ∃ (a : Addr) (ns : List Int), vs = [.ref a] ∧ SqL K H a (ns.map V.int) ∧ ns.length ≤ 63 ∧ ∀ H', Q (.bl true) H'
theorem ok_law (T : Txt w K mg) : FnOk P w K mg base CX0 8 T.f_law T.fd_law ["_law_script"] (sp_law K) := by
  have G_Lright := ok_Lright (P := P) (w := w) (base := base) T
  have G_Lpot := ok_Lpot (P := P) (w := w) (base := base) T
  refine T.F_law.ok sc_law (fun vs H Q E h => ?_) (fun cdv A outer s H vs Q E hr h => ?_)
  · obtain ⟨a, ns, rfl, hS, hl, k⟩ := h; rfl
  · obtain ⟨a, ns, rfl, hS, hl, k⟩ := h
    refine ⟨_, (pss_one (ps_ret (pe_call G_Lright (hr.mono (by decide)) rfl T.g_Lright T.F_Lright.kp T.b_Lright .nil pass0 (pa_cons (pe_call G_Lpot (hr.mono (by decide)) rfl T.g_Lpot T.F_Lpot.kp T.b_Lpot .nil pass0 (pa_cons (pv 0) (pa_cons pe_int pa_nil))) pa_nil)))), ?_⟩
    clear G_Lright G_Lpot
    clear hr
    walk_at "rd"
    intro p H' hO
    walk_at "go"
end
end K72

set_option Elab.async false
set_option linter.all false
set_option maxRecDepth 100000
set_option maxHeartbeats 8000000

namespace K72
open PySem PySem.Spec PyProof.Rows L2 Hx
theorem all_mk {l : PySem.W.OpenLaw} {w : World} {K : PySem.W.Frag} {h : Heap} {mg : Str → Option Value} {fa : Addr} (X : K.In h) (G : h.Ns mainGlobals mg) (hfa : mg "law" = some (.ref fa))
    {C_Whims : Addr}
    {C_Stations : Addr}
    {f_is_integer : Addr} {od_is_integer an_is_integer : Option Addr} {sl_is_integer : Array (Option Value)} {oc_is_integer kV_is_integer dc_is_integer pm_is_integer cd_is_integer ct_is_integer : Value}
    {f_is_count : Addr} {od_is_count an_is_count : Option Addr} {sl_is_count : Array (Option Value)} {oc_is_count kV_is_count dc_is_count pm_is_count cd_is_count ct_is_count : Value}
    {f_is_between : Addr} {od_is_between an_is_between : Option Addr} {sl_is_between : Array (Option Value)} {oc_is_between kV_is_between dc_is_between pm_is_between cd_is_between ct_is_between : Value}
    {f_is_list : Addr} {od_is_list an_is_list : Option Addr} {sl_is_list : Array (Option Value)} {oc_is_list kV_is_list dc_is_list pm_is_list cd_is_list ct_is_list : Value}
    {f_need_many : Addr} {od_need_many an_need_many : Option Addr} {sl_need_many : Array (Option Value)} {oc_need_many kV_need_many dc_need_many pm_need_many cd_need_many ct_need_many : Value}
    {f_need_number : Addr} {od_need_number an_need_number : Option Addr} {sl_need_number : Array (Option Value)} {oc_need_number kV_need_number dc_need_number pm_need_number cd_need_number ct_need_number : Value}
    {f_drop_from : Addr} {od_drop_from an_drop_from : Option Addr} {sl_drop_from : Array (Option Value)} {oc_drop_from kV_drop_from dc_drop_from pm_drop_from cd_drop_from ct_drop_from : Value}
    {f_Whims_init : Addr} {od_Whims_init an_Whims_init : Option Addr} {sl_Whims_init : Array (Option Value)} {oc_Whims_init kV_Whims_init dc_Whims_init pm_Whims_init cd_Whims_init ct_Whims_init : Value}
    {f_Whims_take : Addr} {od_Whims_take an_Whims_take : Option Addr} {sl_Whims_take : Array (Option Value)} {oc_Whims_take kV_Whims_take dc_Whims_take pm_Whims_take cd_Whims_take ct_Whims_take : Value}
    {f_Whims_taken : Addr} {od_Whims_taken an_Whims_taken : Option Addr} {sl_Whims_taken : Array (Option Value)} {oc_Whims_taken kV_Whims_taken dc_Whims_taken pm_Whims_taken cd_Whims_taken ct_Whims_taken : Value}
    {pa_Whims_taken : Addr} {pr_Whims_taken : List Value}
    {f_are_whims : Addr} {od_are_whims an_are_whims : Option Addr} {sl_are_whims : Array (Option Value)} {oc_are_whims kV_are_whims dc_are_whims pm_are_whims cd_are_whims ct_are_whims : Value}
    {f_need_whims : Addr} {od_need_whims an_need_whims : Option Addr} {sl_need_whims : Array (Option Value)} {oc_need_whims kV_need_whims dc_need_whims pm_need_whims cd_need_whims ct_need_whims : Value}
    {f_Stations_init : Addr} {od_Stations_init an_Stations_init : Option Addr} {sl_Stations_init : Array (Option Value)} {oc_Stations_init kV_Stations_init dc_Stations_init pm_Stations_init cd_Stations_init ct_Stations_init : Value}
    {f_Stations_held : Addr} {od_Stations_held an_Stations_held : Option Addr} {sl_Stations_held : Array (Option Value)} {oc_Stations_held kV_Stations_held dc_Stations_held pm_Stations_held cd_Stations_held ct_Stations_held : Value}
    {pa_Stations_held : Addr} {pr_Stations_held : List Value}
    {f_Stations_put : Addr} {od_Stations_put an_Stations_put : Option Addr} {sl_Stations_put : Array (Option Value)} {oc_Stations_put kV_Stations_put dc_Stations_put pm_Stations_put cd_Stations_put ct_Stations_put : Value}
    {f_Stations_woken : Addr} {od_Stations_woken an_Stations_woken : Option Addr} {sl_Stations_woken : Array (Option Value)} {oc_Stations_woken kV_Stations_woken dc_Stations_woken pm_Stations_woken cd_Stations_woken ct_Stations_woken : Value}
    {f_Stations_ready : Addr} {od_Stations_ready an_Stations_ready : Option Addr} {sl_Stations_ready : Array (Option Value)} {oc_Stations_ready kV_Stations_ready dc_Stations_ready pm_Stations_ready cd_Stations_ready ct_Stations_ready : Value}
    {f_Stations_waits_for : Addr} {od_Stations_waits_for an_Stations_waits_for : Option Addr} {sl_Stations_waits_for : Array (Option Value)} {oc_Stations_waits_for kV_Stations_waits_for dc_Stations_waits_for pm_Stations_waits_for cd_Stations_waits_for ct_Stations_waits_for : Value}
    {f_Stations_reads : Addr} {od_Stations_reads an_Stations_reads : Option Addr} {sl_Stations_reads : Array (Option Value)} {oc_Stations_reads kV_Stations_reads dc_Stations_reads pm_Stations_reads cd_Stations_reads ct_Stations_reads : Value}
    {f_Stations_picked : Addr} {od_Stations_picked an_Stations_picked : Option Addr} {sl_Stations_picked : Array (Option Value)} {oc_Stations_picked kV_Stations_picked dc_Stations_picked pm_Stations_picked cd_Stations_picked ct_Stations_picked : Value}
    {f_Stations_chosen : Addr} {od_Stations_chosen an_Stations_chosen : Option Addr} {sl_Stations_chosen : Array (Option Value)} {oc_Stations_chosen kV_Stations_chosen dc_Stations_chosen pm_Stations_chosen cd_Stations_chosen ct_Stations_chosen : Value}
    {f_Stations_numbers : Addr} {od_Stations_numbers an_Stations_numbers : Option Addr} {sl_Stations_numbers : Array (Option Value)} {oc_Stations_numbers kV_Stations_numbers dc_Stations_numbers pm_Stations_numbers cd_Stations_numbers ct_Stations_numbers : Value}
    {f_Stations_dropped : Addr} {od_Stations_dropped an_Stations_dropped : Option Addr} {sl_Stations_dropped : Array (Option Value)} {oc_Stations_dropped kV_Stations_dropped dc_Stations_dropped pm_Stations_dropped cd_Stations_dropped ct_Stations_dropped : Value}
    {f_Stations_copy : Addr} {od_Stations_copy an_Stations_copy : Option Addr} {sl_Stations_copy : Array (Option Value)} {oc_Stations_copy kV_Stations_copy dc_Stations_copy pm_Stations_copy cd_Stations_copy ct_Stations_copy : Value}
    {f_Stationsrow : Addr} {od_Stationsrow an_Stationsrow : Option Addr} {sl_Stationsrow : Array (Option Value)} {oc_Stationsrow kV_Stationsrow dc_Stationsrow pm_Stationsrow cd_Stationsrow ct_Stationsrow : Value}
    {f__is_register_place : Addr} {od__is_register_place an__is_register_place : Option Addr} {sl__is_register_place : Array (Option Value)} {oc__is_register_place kV__is_register_place dc__is_register_place pm__is_register_place cd__is_register_place ct__is_register_place : Value}
    {f__need_reads : Addr} {od__need_reads an__need_reads : Option Addr} {sl__need_reads : Array (Option Value)} {oc__need_reads kV__need_reads dc__need_reads pm__need_reads cd__need_reads ct__need_reads : Value}
    {f_Lpot : Addr} {od_Lpot an_Lpot : Option Addr} {sl_Lpot : Array (Option Value)} {oc_Lpot kV_Lpot dc_Lpot pm_Lpot cd_Lpot ct_Lpot : Value}
    {f_Ldraw : Addr} {od_Ldraw an_Ldraw : Option Addr} {sl_Ldraw : Array (Option Value)} {oc_Ldraw kV_Ldraw dc_Ldraw pm_Ldraw cd_Ldraw ct_Ldraw : Value}
    {f_Lpick : Addr} {od_Lpick an_Lpick : Option Addr} {sl_Lpick : Array (Option Value)} {oc_Lpick kV_Lpick dc_Lpick pm_Lpick cd_Lpick ct_Lpick : Value}
    {f_Lseen : Addr} {od_Lseen an_Lseen : Option Addr} {sl_Lseen : Array (Option Value)} {oc_Lseen kV_Lseen dc_Lseen pm_Lseen cd_Lseen ct_Lseen : Value}
    {f_Lplaces : Addr} {od_Lplaces an_Lplaces : Option Addr} {sl_Lplaces : Array (Option Value)} {oc_Lplaces kV_Lplaces dc_Lplaces pm_Lplaces cd_Lplaces ct_Lplaces : Value}
    {f_Ldue : Addr} {od_Ldue an_Ldue : Option Addr} {sl_Ldue : Array (Option Value)} {oc_Ldue kV_Ldue dc_Ldue pm_Ldue cd_Ldue ct_Ldue : Value}
    {f_Lchosen_right : Addr} {od_Lchosen_right an_Lchosen_right : Option Addr} {sl_Lchosen_right : Array (Option Value)} {oc_Lchosen_right kV_Lchosen_right dc_Lchosen_right pm_Lchosen_right cd_Lchosen_right ct_Lchosen_right : Value}
    {f_Lput : Addr} {od_Lput an_Lput : Option Addr} {sl_Lput : Array (Option Value)} {oc_Lput kV_Lput dc_Lput pm_Lput cd_Lput ct_Lput : Value}
    {f_Lright : Addr} {od_Lright an_Lright : Option Addr} {sl_Lright : Array (Option Value)} {oc_Lright kV_Lright dc_Lright pm_Lright cd_Lright ct_Lright : Value}
    {f_law : Addr} {od_law an_law : Option Addr} {sl_law : Array (Option Value)} {oc_law kV_law dc_law pm_law cd_law ct_law : Value}
    {t__MOST_NUMBERS : Tok}
    {t__GREATEST : Tok}
    {t__MOST_ROWS : Tok}
    {t__REGISTER_PLACES : Tok}
    {t__MOST_READS : Tok}
    {t__MOST_READY : Tok}
    
    (aC_Whims : PySem.W.nsIn K mainGlobals "Whims" = some (some (.ref C_Whims))) (pg_Whims : PySem.W.plainGet K C_Whims Str.empty = true) (hd_Whims : PySem.W.hasDictIn K C_Whims = true) (po_Whims : PySem.W.plainOver K C_Whims = true) (sa_Whims : PySem.W.findIn K (.ref C_Whims) "__setattr__" = some (some (.builtin "object.__setattr__"))) (mk_Whims : PySem.W.makesIn K C_Whims = true) (kc_Whims : PySem.W.keepIn K (.ref C_Whims) = true)
    (n_Whims_numbers : PySem.W.findIn K (.ref C_Whims) "_numbers" = some none)
    (n_Whims_position : PySem.W.findIn K (.ref C_Whims) "_position" = some none)
    (aC_Stations : PySem.W.nsIn K mainGlobals "Stations" = some (some (.ref C_Stations))) (pg_Stations : PySem.W.plainGet K C_Stations Str.empty = true) (hd_Stations : PySem.W.hasDictIn K C_Stations = true) (po_Stations : PySem.W.plainOver K C_Stations = true) (sa_Stations : PySem.W.findIn K (.ref C_Stations) "__setattr__" = some (some (.builtin "object.__setattr__"))) (mk_Stations : PySem.W.makesIn K C_Stations = true) (kc_Stations : PySem.W.keepIn K (.ref C_Stations) = true)
    (n_Stations_many : PySem.W.findIn K (.ref C_Stations) "_many" = some none)
    (n_Stations_rows : PySem.W.findIn K (.ref C_Stations) "_rows" = some none)
    (a_is_integer : PySem.W.nsIn K mainGlobals "is_integer" = some (some (.ref f_is_integer)))
    (l_is_integer : K.lookup f_is_integer = some ⟨oc_is_integer, od_is_integer, .func (PySem.W.fnOf "is_integer" "is_integer" (defArgs s_is_integer) (defBody s_is_integer) (defScope s_is_integer) .none kV_is_integer dc_is_integer pm_is_integer an_is_integer cd_is_integer ct_is_integer), sl_is_integer⟩)
    (c_is_integer : PySem.W.codeIn K cd_is_integer "is_integer" = true) (k_is_integer : PySem.W.keepIn K (.ref f_is_integer) = true)
    (a_is_count : PySem.W.nsIn K mainGlobals "is_count" = some (some (.ref f_is_count)))
    (l_is_count : K.lookup f_is_count = some ⟨oc_is_count, od_is_count, .func (PySem.W.fnOf "is_count" "is_count" (defArgs s_is_count) (defBody s_is_count) (defScope s_is_count) .none kV_is_count dc_is_count pm_is_count an_is_count cd_is_count ct_is_count), sl_is_count⟩)
    (c_is_count : PySem.W.codeIn K cd_is_count "is_count" = true) (k_is_count : PySem.W.keepIn K (.ref f_is_count) = true)
    (a_is_between : PySem.W.nsIn K mainGlobals "is_between" = some (some (.ref f_is_between)))
    (l_is_between : K.lookup f_is_between = some ⟨oc_is_between, od_is_between, .func (PySem.W.fnOf "is_between" "is_between" (defArgs s_is_between) (defBody s_is_between) (defScope s_is_between) .none kV_is_between dc_is_between pm_is_between an_is_between cd_is_between ct_is_between), sl_is_between⟩)
    (c_is_between : PySem.W.codeIn K cd_is_between "is_between" = true) (k_is_between : PySem.W.keepIn K (.ref f_is_between) = true)
    (a_is_list : PySem.W.nsIn K mainGlobals "is_list" = some (some (.ref f_is_list)))
    (l_is_list : K.lookup f_is_list = some ⟨oc_is_list, od_is_list, .func (PySem.W.fnOf "is_list" "is_list" (defArgs s_is_list) (defBody s_is_list) (defScope s_is_list) .none kV_is_list dc_is_list pm_is_list an_is_list cd_is_list ct_is_list), sl_is_list⟩)
    (c_is_list : PySem.W.codeIn K cd_is_list "is_list" = true) (k_is_list : PySem.W.keepIn K (.ref f_is_list) = true)
    (a_need_many : PySem.W.nsIn K mainGlobals "need_many" = some (some (.ref f_need_many)))
    (l_need_many : K.lookup f_need_many = some ⟨oc_need_many, od_need_many, .func (PySem.W.fnOf "need_many" "need_many" (defArgs s_need_many) (defBody s_need_many) (defScope s_need_many) .none kV_need_many dc_need_many pm_need_many an_need_many cd_need_many ct_need_many), sl_need_many⟩)
    (c_need_many : PySem.W.codeIn K cd_need_many "need_many" = true) (k_need_many : PySem.W.keepIn K (.ref f_need_many) = true)
    (a_need_number : PySem.W.nsIn K mainGlobals "need_number" = some (some (.ref f_need_number)))
    (l_need_number : K.lookup f_need_number = some ⟨oc_need_number, od_need_number, .func (PySem.W.fnOf "need_number" "need_number" (defArgs s_need_number) (defBody s_need_number) (defScope s_need_number) .none kV_need_number dc_need_number pm_need_number an_need_number cd_need_number ct_need_number), sl_need_number⟩)
    (c_need_number : PySem.W.codeIn K cd_need_number "need_number" = true) (k_need_number : PySem.W.keepIn K (.ref f_need_number) = true)
    (a_drop_from : PySem.W.nsIn K mainGlobals "drop_from" = some (some (.ref f_drop_from)))
    (l_drop_from : K.lookup f_drop_from = some ⟨oc_drop_from, od_drop_from, .func (PySem.W.fnOf "drop_from" "drop_from" (defArgs s_drop_from) (defBody s_drop_from) (defScope s_drop_from) .none kV_drop_from dc_drop_from pm_drop_from an_drop_from cd_drop_from ct_drop_from), sl_drop_from⟩)
    (c_drop_from : PySem.W.codeIn K cd_drop_from "drop_from" = true) (k_drop_from : PySem.W.keepIn K (.ref f_drop_from) = true)
    (a_Whims_init : PySem.W.findIn K (.ref C_Whims) "__init__" = some (some (.ref f_Whims_init)))
    (i_Whims_init : PySem.W.isFn K (.ref f_Whims_init) = true)
    (l_Whims_init : K.lookup f_Whims_init = some ⟨oc_Whims_init, od_Whims_init, .func (PySem.W.fnOf "__init__" "Whims.__init__" (defArgs s_Whims_init) (defBody s_Whims_init) (defScope s_Whims_init) .none kV_Whims_init dc_Whims_init pm_Whims_init an_Whims_init cd_Whims_init ct_Whims_init), sl_Whims_init⟩)
    (c_Whims_init : PySem.W.codeIn K cd_Whims_init "Whims.__init__" = true) (k_Whims_init : PySem.W.keepIn K (.ref f_Whims_init) = true)
    (a_Whims_take : PySem.W.findIn K (.ref C_Whims) "take" = some (some (.ref f_Whims_take)))
    (i_Whims_take : PySem.W.isFn K (.ref f_Whims_take) = true)
    (l_Whims_take : K.lookup f_Whims_take = some ⟨oc_Whims_take, od_Whims_take, .func (PySem.W.fnOf "take" "Whims.take" (defArgs s_Whims_take) (defBody s_Whims_take) (defScope s_Whims_take) .none kV_Whims_take dc_Whims_take pm_Whims_take an_Whims_take cd_Whims_take ct_Whims_take), sl_Whims_take⟩)
    (c_Whims_take : PySem.W.codeIn K cd_Whims_take "Whims.take" = true) (k_Whims_take : PySem.W.keepIn K (.ref f_Whims_take) = true)
    (a_Whims_taken : PySem.W.findIn K (.ref C_Whims) "taken" = some (some (.ref pa_Whims_taken))) (pg_Whims_taken : PySem.W.specialIn K (.ref pa_Whims_taken) "__get__" = some (some (.builtin "property.__get__"))) (pt_Whims_taken : PySem.W.takesIn K (.ref pa_Whims_taken) = some true) (pq_Whims_taken : PySem.W.recIn K pa_Whims_taken "property" = some (.ref f_Whims_taken :: pr_Whims_taken))
    (l_Whims_taken : K.lookup f_Whims_taken = some ⟨oc_Whims_taken, od_Whims_taken, .func (PySem.W.fnOf "taken" "Whims.taken" (defArgs s_Whims_taken) (defBody s_Whims_taken) (defScope s_Whims_taken) .none kV_Whims_taken dc_Whims_taken pm_Whims_taken an_Whims_taken cd_Whims_taken ct_Whims_taken), sl_Whims_taken⟩)
    (c_Whims_taken : PySem.W.codeIn K cd_Whims_taken "Whims.taken" = true) (k_Whims_taken : PySem.W.keepIn K (.ref f_Whims_taken) = true)
    (a_are_whims : PySem.W.nsIn K mainGlobals "are_whims" = some (some (.ref f_are_whims)))
    (l_are_whims : K.lookup f_are_whims = some ⟨oc_are_whims, od_are_whims, .func (PySem.W.fnOf "are_whims" "are_whims" (defArgs s_are_whims) (defBody s_are_whims) (defScope s_are_whims) .none kV_are_whims dc_are_whims pm_are_whims an_are_whims cd_are_whims ct_are_whims), sl_are_whims⟩)
    (c_are_whims : PySem.W.codeIn K cd_are_whims "are_whims" = true) (k_are_whims : PySem.W.keepIn K (.ref f_are_whims) = true)
    (a_need_whims : PySem.W.nsIn K mainGlobals "need_whims" = some (some (.ref f_need_whims)))
    (l_need_whims : K.lookup f_need_whims = some ⟨oc_need_whims, od_need_whims, .func (PySem.W.fnOf "need_whims" "need_whims" (defArgs s_need_whims) (defBody s_need_whims) (defScope s_need_whims) .none kV_need_whims dc_need_whims pm_need_whims an_need_whims cd_need_whims ct_need_whims), sl_need_whims⟩)
    (c_need_whims : PySem.W.codeIn K cd_need_whims "need_whims" = true) (k_need_whims : PySem.W.keepIn K (.ref f_need_whims) = true)
    (a_Stations_init : PySem.W.findIn K (.ref C_Stations) "__init__" = some (some (.ref f_Stations_init)))
    (i_Stations_init : PySem.W.isFn K (.ref f_Stations_init) = true)
    (l_Stations_init : K.lookup f_Stations_init = some ⟨oc_Stations_init, od_Stations_init, .func (PySem.W.fnOf "__init__" "Stations.__init__" (defArgs s_Stations_init) (defBody s_Stations_init) (defScope s_Stations_init) .none kV_Stations_init dc_Stations_init pm_Stations_init an_Stations_init cd_Stations_init ct_Stations_init), sl_Stations_init⟩)
    (c_Stations_init : PySem.W.codeIn K cd_Stations_init "Stations.__init__" = true) (k_Stations_init : PySem.W.keepIn K (.ref f_Stations_init) = true)
    (a_Stations_held : PySem.W.findIn K (.ref C_Stations) "held" = some (some (.ref pa_Stations_held))) (pg_Stations_held : PySem.W.specialIn K (.ref pa_Stations_held) "__get__" = some (some (.builtin "property.__get__"))) (pt_Stations_held : PySem.W.takesIn K (.ref pa_Stations_held) = some true) (pq_Stations_held : PySem.W.recIn K pa_Stations_held "property" = some (.ref f_Stations_held :: pr_Stations_held))
    (l_Stations_held : K.lookup f_Stations_held = some ⟨oc_Stations_held, od_Stations_held, .func (PySem.W.fnOf "held" "Stations.held" (defArgs s_Stations_held) (defBody s_Stations_held) (defScope s_Stations_held) .none kV_Stations_held dc_Stations_held pm_Stations_held an_Stations_held cd_Stations_held ct_Stations_held), sl_Stations_held⟩)
    (c_Stations_held : PySem.W.codeIn K cd_Stations_held "Stations.held" = true) (k_Stations_held : PySem.W.keepIn K (.ref f_Stations_held) = true)
    (a_Stations_put : PySem.W.findIn K (.ref C_Stations) "put" = some (some (.ref f_Stations_put)))
    (i_Stations_put : PySem.W.isFn K (.ref f_Stations_put) = true)
    (l_Stations_put : K.lookup f_Stations_put = some ⟨oc_Stations_put, od_Stations_put, .func (PySem.W.fnOf "put" "Stations.put" (defArgs s_Stations_put) (defBody s_Stations_put) (defScope s_Stations_put) .none kV_Stations_put dc_Stations_put pm_Stations_put an_Stations_put cd_Stations_put ct_Stations_put), sl_Stations_put⟩)
    (c_Stations_put : PySem.W.codeIn K cd_Stations_put "Stations.put" = true) (k_Stations_put : PySem.W.keepIn K (.ref f_Stations_put) = true)
    (a_Stations_woken : PySem.W.findIn K (.ref C_Stations) "woken" = some (some (.ref f_Stations_woken)))
    (i_Stations_woken : PySem.W.isFn K (.ref f_Stations_woken) = true)
    (l_Stations_woken : K.lookup f_Stations_woken = some ⟨oc_Stations_woken, od_Stations_woken, .func (PySem.W.fnOf "woken" "Stations.woken" (defArgs s_Stations_woken) (defBody s_Stations_woken) (defScope s_Stations_woken) .none kV_Stations_woken dc_Stations_woken pm_Stations_woken an_Stations_woken cd_Stations_woken ct_Stations_woken), sl_Stations_woken⟩)
    (c_Stations_woken : PySem.W.codeIn K cd_Stations_woken "Stations.woken" = true) (k_Stations_woken : PySem.W.keepIn K (.ref f_Stations_woken) = true)
    (a_Stations_ready : PySem.W.findIn K (.ref C_Stations) "ready" = some (some (.ref f_Stations_ready)))
    (i_Stations_ready : PySem.W.isFn K (.ref f_Stations_ready) = true)
    (l_Stations_ready : K.lookup f_Stations_ready = some ⟨oc_Stations_ready, od_Stations_ready, .func (PySem.W.fnOf "ready" "Stations.ready" (defArgs s_Stations_ready) (defBody s_Stations_ready) (defScope s_Stations_ready) .none kV_Stations_ready dc_Stations_ready pm_Stations_ready an_Stations_ready cd_Stations_ready ct_Stations_ready), sl_Stations_ready⟩)
    (c_Stations_ready : PySem.W.codeIn K cd_Stations_ready "Stations.ready" = true) (k_Stations_ready : PySem.W.keepIn K (.ref f_Stations_ready) = true)
    (a_Stations_waits_for : PySem.W.findIn K (.ref C_Stations) "waits_for" = some (some (.ref f_Stations_waits_for)))
    (i_Stations_waits_for : PySem.W.isFn K (.ref f_Stations_waits_for) = true)
    (l_Stations_waits_for : K.lookup f_Stations_waits_for = some ⟨oc_Stations_waits_for, od_Stations_waits_for, .func (PySem.W.fnOf "waits_for" "Stations.waits_for" (defArgs s_Stations_waits_for) (defBody s_Stations_waits_for) (defScope s_Stations_waits_for) .none kV_Stations_waits_for dc_Stations_waits_for pm_Stations_waits_for an_Stations_waits_for cd_Stations_waits_for ct_Stations_waits_for), sl_Stations_waits_for⟩)
    (c_Stations_waits_for : PySem.W.codeIn K cd_Stations_waits_for "Stations.waits_for" = true) (k_Stations_waits_for : PySem.W.keepIn K (.ref f_Stations_waits_for) = true)
    (a_Stations_reads : PySem.W.findIn K (.ref C_Stations) "reads" = some (some (.ref f_Stations_reads)))
    (i_Stations_reads : PySem.W.isFn K (.ref f_Stations_reads) = true)
    (l_Stations_reads : K.lookup f_Stations_reads = some ⟨oc_Stations_reads, od_Stations_reads, .func (PySem.W.fnOf "reads" "Stations.reads" (defArgs s_Stations_reads) (defBody s_Stations_reads) (defScope s_Stations_reads) .none kV_Stations_reads dc_Stations_reads pm_Stations_reads an_Stations_reads cd_Stations_reads ct_Stations_reads), sl_Stations_reads⟩)
    (c_Stations_reads : PySem.W.codeIn K cd_Stations_reads "Stations.reads" = true) (k_Stations_reads : PySem.W.keepIn K (.ref f_Stations_reads) = true)
    (a_Stations_picked : PySem.W.findIn K (.ref C_Stations) "picked" = some (some (.ref f_Stations_picked)))
    (i_Stations_picked : PySem.W.isFn K (.ref f_Stations_picked) = true)
    (l_Stations_picked : K.lookup f_Stations_picked = some ⟨oc_Stations_picked, od_Stations_picked, .func (PySem.W.fnOf "picked" "Stations.picked" (defArgs s_Stations_picked) (defBody s_Stations_picked) (defScope s_Stations_picked) .none kV_Stations_picked dc_Stations_picked pm_Stations_picked an_Stations_picked cd_Stations_picked ct_Stations_picked), sl_Stations_picked⟩)
    (c_Stations_picked : PySem.W.codeIn K cd_Stations_picked "Stations.picked" = true) (k_Stations_picked : PySem.W.keepIn K (.ref f_Stations_picked) = true)
    (a_Stations_chosen : PySem.W.findIn K (.ref C_Stations) "chosen" = some (some (.ref f_Stations_chosen)))
    (i_Stations_chosen : PySem.W.isFn K (.ref f_Stations_chosen) = true)
    (l_Stations_chosen : K.lookup f_Stations_chosen = some ⟨oc_Stations_chosen, od_Stations_chosen, .func (PySem.W.fnOf "chosen" "Stations.chosen" (defArgs s_Stations_chosen) (defBody s_Stations_chosen) (defScope s_Stations_chosen) .none kV_Stations_chosen dc_Stations_chosen pm_Stations_chosen an_Stations_chosen cd_Stations_chosen ct_Stations_chosen), sl_Stations_chosen⟩)
    (c_Stations_chosen : PySem.W.codeIn K cd_Stations_chosen "Stations.chosen" = true) (k_Stations_chosen : PySem.W.keepIn K (.ref f_Stations_chosen) = true)
    (a_Stations_numbers : PySem.W.findIn K (.ref C_Stations) "numbers" = some (some (.ref f_Stations_numbers)))
    (i_Stations_numbers : PySem.W.isFn K (.ref f_Stations_numbers) = true)
    (l_Stations_numbers : K.lookup f_Stations_numbers = some ⟨oc_Stations_numbers, od_Stations_numbers, .func (PySem.W.fnOf "numbers" "Stations.numbers" (defArgs s_Stations_numbers) (defBody s_Stations_numbers) (defScope s_Stations_numbers) .none kV_Stations_numbers dc_Stations_numbers pm_Stations_numbers an_Stations_numbers cd_Stations_numbers ct_Stations_numbers), sl_Stations_numbers⟩)
    (c_Stations_numbers : PySem.W.codeIn K cd_Stations_numbers "Stations.numbers" = true) (k_Stations_numbers : PySem.W.keepIn K (.ref f_Stations_numbers) = true)
    (a_Stations_dropped : PySem.W.findIn K (.ref C_Stations) "dropped" = some (some (.ref f_Stations_dropped)))
    (i_Stations_dropped : PySem.W.isFn K (.ref f_Stations_dropped) = true)
    (l_Stations_dropped : K.lookup f_Stations_dropped = some ⟨oc_Stations_dropped, od_Stations_dropped, .func (PySem.W.fnOf "dropped" "Stations.dropped" (defArgs s_Stations_dropped) (defBody s_Stations_dropped) (defScope s_Stations_dropped) .none kV_Stations_dropped dc_Stations_dropped pm_Stations_dropped an_Stations_dropped cd_Stations_dropped ct_Stations_dropped), sl_Stations_dropped⟩)
    (c_Stations_dropped : PySem.W.codeIn K cd_Stations_dropped "Stations.dropped" = true) (k_Stations_dropped : PySem.W.keepIn K (.ref f_Stations_dropped) = true)
    (a_Stations_copy : PySem.W.findIn K (.ref C_Stations) "copy" = some (some (.ref f_Stations_copy)))
    (i_Stations_copy : PySem.W.isFn K (.ref f_Stations_copy) = true)
    (l_Stations_copy : K.lookup f_Stations_copy = some ⟨oc_Stations_copy, od_Stations_copy, .func (PySem.W.fnOf "copy" "Stations.copy" (defArgs s_Stations_copy) (defBody s_Stations_copy) (defScope s_Stations_copy) .none kV_Stations_copy dc_Stations_copy pm_Stations_copy an_Stations_copy cd_Stations_copy ct_Stations_copy), sl_Stations_copy⟩)
    (c_Stations_copy : PySem.W.codeIn K cd_Stations_copy "Stations.copy" = true) (k_Stations_copy : PySem.W.keepIn K (.ref f_Stations_copy) = true)
    (a_Stationsrow : PySem.W.findIn K (.ref C_Stations) "_row" = some (some (.ref f_Stationsrow)))
    (i_Stationsrow : PySem.W.isFn K (.ref f_Stationsrow) = true)
    (l_Stationsrow : K.lookup f_Stationsrow = some ⟨oc_Stationsrow, od_Stationsrow, .func (PySem.W.fnOf "_row" "Stations._row" (defArgs s_Stationsrow) (defBody s_Stationsrow) (defScope s_Stationsrow) .none kV_Stationsrow dc_Stationsrow pm_Stationsrow an_Stationsrow cd_Stationsrow ct_Stationsrow), sl_Stationsrow⟩)
    (c_Stationsrow : PySem.W.codeIn K cd_Stationsrow "Stations._row" = true) (k_Stationsrow : PySem.W.keepIn K (.ref f_Stationsrow) = true)
    (a__is_register_place : PySem.W.nsIn K mainGlobals "_is_register_place" = some (some (.ref f__is_register_place)))
    (l__is_register_place : K.lookup f__is_register_place = some ⟨oc__is_register_place, od__is_register_place, .func (PySem.W.fnOf "_is_register_place" "_is_register_place" (defArgs s__is_register_place) (defBody s__is_register_place) (defScope s__is_register_place) .none kV__is_register_place dc__is_register_place pm__is_register_place an__is_register_place cd__is_register_place ct__is_register_place), sl__is_register_place⟩)
    (c__is_register_place : PySem.W.codeIn K cd__is_register_place "_is_register_place" = true) (k__is_register_place : PySem.W.keepIn K (.ref f__is_register_place) = true)
    (a__need_reads : PySem.W.nsIn K mainGlobals "_need_reads" = some (some (.ref f__need_reads)))
    (l__need_reads : K.lookup f__need_reads = some ⟨oc__need_reads, od__need_reads, .func (PySem.W.fnOf "_need_reads" "_need_reads" (defArgs s__need_reads) (defBody s__need_reads) (defScope s__need_reads) .none kV__need_reads dc__need_reads pm__need_reads an__need_reads cd__need_reads ct__need_reads), sl__need_reads⟩)
    (c__need_reads : PySem.W.codeIn K cd__need_reads "_need_reads" = true) (k__need_reads : PySem.W.keepIn K (.ref f__need_reads) = true)
    (a_Lpot : PySem.W.nsIn K mainGlobals "_law_pot" = some (some (.ref f_Lpot)))
    (l_Lpot : K.lookup f_Lpot = some ⟨oc_Lpot, od_Lpot, .func (PySem.W.fnOf "_law_pot" "_law_pot" (defArgs s_Lpot) (defBody s_Lpot) (defScope s_Lpot) .none kV_Lpot dc_Lpot pm_Lpot an_Lpot cd_Lpot ct_Lpot), sl_Lpot⟩)
    (c_Lpot : PySem.W.codeIn K cd_Lpot "_law_pot" = true) (k_Lpot : PySem.W.keepIn K (.ref f_Lpot) = true)
    (a_Ldraw : PySem.W.nsIn K mainGlobals "_law_draw" = some (some (.ref f_Ldraw)))
    (l_Ldraw : K.lookup f_Ldraw = some ⟨oc_Ldraw, od_Ldraw, .func (PySem.W.fnOf "_law_draw" "_law_draw" (defArgs s_Ldraw) (defBody s_Ldraw) (defScope s_Ldraw) .none kV_Ldraw dc_Ldraw pm_Ldraw an_Ldraw cd_Ldraw ct_Ldraw), sl_Ldraw⟩)
    (c_Ldraw : PySem.W.codeIn K cd_Ldraw "_law_draw" = true) (k_Ldraw : PySem.W.keepIn K (.ref f_Ldraw) = true)
    (a_Lpick : PySem.W.nsIn K mainGlobals "_law_pick" = some (some (.ref f_Lpick)))
    (l_Lpick : K.lookup f_Lpick = some ⟨oc_Lpick, od_Lpick, .func (PySem.W.fnOf "_law_pick" "_law_pick" (defArgs s_Lpick) (defBody s_Lpick) (defScope s_Lpick) .none kV_Lpick dc_Lpick pm_Lpick an_Lpick cd_Lpick ct_Lpick), sl_Lpick⟩)
    (c_Lpick : PySem.W.codeIn K cd_Lpick "_law_pick" = true) (k_Lpick : PySem.W.keepIn K (.ref f_Lpick) = true)
    (a_Lseen : PySem.W.nsIn K mainGlobals "_law_seen" = some (some (.ref f_Lseen)))
    (l_Lseen : K.lookup f_Lseen = some ⟨oc_Lseen, od_Lseen, .func (PySem.W.fnOf "_law_seen" "_law_seen" (defArgs s_Lseen) (defBody s_Lseen) (defScope s_Lseen) .none kV_Lseen dc_Lseen pm_Lseen an_Lseen cd_Lseen ct_Lseen), sl_Lseen⟩)
    (c_Lseen : PySem.W.codeIn K cd_Lseen "_law_seen" = true) (k_Lseen : PySem.W.keepIn K (.ref f_Lseen) = true)
    (a_Lplaces : PySem.W.nsIn K mainGlobals "_law_places" = some (some (.ref f_Lplaces)))
    (l_Lplaces : K.lookup f_Lplaces = some ⟨oc_Lplaces, od_Lplaces, .func (PySem.W.fnOf "_law_places" "_law_places" (defArgs s_Lplaces) (defBody s_Lplaces) (defScope s_Lplaces) .none kV_Lplaces dc_Lplaces pm_Lplaces an_Lplaces cd_Lplaces ct_Lplaces), sl_Lplaces⟩)
    (c_Lplaces : PySem.W.codeIn K cd_Lplaces "_law_places" = true) (k_Lplaces : PySem.W.keepIn K (.ref f_Lplaces) = true)
    (a_Ldue : PySem.W.nsIn K mainGlobals "_law_due" = some (some (.ref f_Ldue)))
    (l_Ldue : K.lookup f_Ldue = some ⟨oc_Ldue, od_Ldue, .func (PySem.W.fnOf "_law_due" "_law_due" (defArgs s_Ldue) (defBody s_Ldue) (defScope s_Ldue) .none kV_Ldue dc_Ldue pm_Ldue an_Ldue cd_Ldue ct_Ldue), sl_Ldue⟩)
    (c_Ldue : PySem.W.codeIn K cd_Ldue "_law_due" = true) (k_Ldue : PySem.W.keepIn K (.ref f_Ldue) = true)
    (a_Lchosen_right : PySem.W.nsIn K mainGlobals "_law_chosen_right" = some (some (.ref f_Lchosen_right)))
    (l_Lchosen_right : K.lookup f_Lchosen_right = some ⟨oc_Lchosen_right, od_Lchosen_right, .func (PySem.W.fnOf "_law_chosen_right" "_law_chosen_right" (defArgs s_Lchosen_right) (defBody s_Lchosen_right) (defScope s_Lchosen_right) .none kV_Lchosen_right dc_Lchosen_right pm_Lchosen_right an_Lchosen_right cd_Lchosen_right ct_Lchosen_right), sl_Lchosen_right⟩)
    (c_Lchosen_right : PySem.W.codeIn K cd_Lchosen_right "_law_chosen_right" = true) (k_Lchosen_right : PySem.W.keepIn K (.ref f_Lchosen_right) = true)
    (a_Lput : PySem.W.nsIn K mainGlobals "_law_put" = some (some (.ref f_Lput)))
    (l_Lput : K.lookup f_Lput = some ⟨oc_Lput, od_Lput, .func (PySem.W.fnOf "_law_put" "_law_put" (defArgs s_Lput) (defBody s_Lput) (defScope s_Lput) .none kV_Lput dc_Lput pm_Lput an_Lput cd_Lput ct_Lput), sl_Lput⟩)
    (c_Lput : PySem.W.codeIn K cd_Lput "_law_put" = true) (k_Lput : PySem.W.keepIn K (.ref f_Lput) = true)
    (a_Lright : PySem.W.nsIn K mainGlobals "_law_right" = some (some (.ref f_Lright)))
    (l_Lright : K.lookup f_Lright = some ⟨oc_Lright, od_Lright, .func (PySem.W.fnOf "_law_right" "_law_right" (defArgs s_Lright) (defBody s_Lright) (defScope s_Lright) .none kV_Lright dc_Lright pm_Lright an_Lright cd_Lright ct_Lright), sl_Lright⟩)
    (c_Lright : PySem.W.codeIn K cd_Lright "_law_right" = true) (k_Lright : PySem.W.keepIn K (.ref f_Lright) = true)
    (a_law : PySem.W.nsIn K mainGlobals "law" = some (some (.ref f_law)))
    (l_law : K.lookup f_law = some ⟨oc_law, od_law, .func (PySem.W.fnOf "law" "law" (defArgs s_law) (defBody s_law) (defScope s_law) .none kV_law dc_law pm_law an_law cd_law ct_law), sl_law⟩)
    (c_law : PySem.W.codeIn K cd_law "law" = true) (k_law : PySem.W.keepIn K (.ref f_law) = true)
    (z_abs : PySem.W.nsIn K mainGlobals "abs" = some none)
    (z_all : PySem.W.nsIn K mainGlobals "all" = some none)
    (z_bool : PySem.W.nsIn K mainGlobals "bool" = some none)
    (z_dict : PySem.W.nsIn K mainGlobals "dict" = some none)
    (z_divmod : PySem.W.nsIn K mainGlobals "divmod" = some none)
    (z_int : PySem.W.nsIn K mainGlobals "int" = some none)
    (z_isinstance : PySem.W.nsIn K mainGlobals "isinstance" = some none)
    (z_len : PySem.W.nsIn K mainGlobals "len" = some none)
    (z_list : PySem.W.nsIn K mainGlobals "list" = some none)
    (z_max : PySem.W.nsIn K mainGlobals "max" = some none)
    (z_min : PySem.W.nsIn K mainGlobals "min" = some none)
    (z_range : PySem.W.nsIn K mainGlobals "range" = some none)
    (z_set : PySem.W.nsIn K mainGlobals "set" = some none)
    (z_sorted : PySem.W.nsIn K mainGlobals "sorted" = some none)
    (z_tuple : PySem.W.nsIn K mainGlobals "tuple" = some none)
    (x__MOST_NUMBERS : PySem.W.nsIn K mainGlobals "_MOST_NUMBERS" = some (some (.int 200 t__MOST_NUMBERS)))
    (x__GREATEST : PySem.W.nsIn K mainGlobals "_GREATEST" = some (some (.int 1000000 t__GREATEST)))
    (x__MOST_ROWS : PySem.W.nsIn K mainGlobals "_MOST_ROWS" = some (some (.int 32 t__MOST_ROWS)))
    (x__REGISTER_PLACES : PySem.W.nsIn K mainGlobals "_REGISTER_PLACES" = some (some (.int 48 t__REGISTER_PLACES)))
    (x__MOST_READS : PySem.W.nsIn K mainGlobals "_MOST_READS" = some (some (.int 3 t__MOST_READS)))
    (x__MOST_READY : PySem.W.nsIn K mainGlobals "_MOST_READY" = some (some (.int 48 t__MOST_READY)))
    (ic_Whims : PySem.W.findIn K (.ref C_Whims) "__class__" = some (some (.builtin "object.__class__"))) (in_Whims : PySem.W.specialIn K (.builtin "object.__class__") "__get__" = some (some (.builtin "getset_descriptor.__get__"))) (it_Whims : PySem.W.takesIn K (.builtin "object.__class__") = some true) (im_Whims : PySem.W.mroIn K C_Whims (.type "object") = some true)
    : ∃ fd : FuncData, (∀ (s : Shared) (v : Value), BindsTo s fd ⟨[v], []⟩ [("_law_script", v)]) ∧ ∀ base : Heap, K.In base → base.Ns mainGlobals mg → FnOk l.prog w K mg base CX0 8 fa fd ["_law_script"] (sp_law K) := by
  have e := hfa.symm.trans (PySem.W.mg_of X G a_law)
  cases e
  let T : Txt w K mg := {
    C_Whims := C_Whims, cl_Whims := ⟨pg_Whims, hd_Whims, po_Whims, sa_Whims⟩, g_Whims := PySem.W.mg_of X G aC_Whims,
    n_Whims_numbers := n_Whims_numbers,
    n_Whims_position := n_Whims_position,
    C_Stations := C_Stations, cl_Stations := ⟨pg_Stations, hd_Stations, po_Stations, sa_Stations⟩, g_Stations := PySem.W.mg_of X G aC_Stations,
    n_Stations_many := n_Stations_many,
    n_Stations_rows := n_Stations_rows,
    f_is_integer := _, fd_is_integer := _, F_is_integer := fun_mk (st := s_is_integer) l_is_integer c_is_integer k_is_integer,
    g_is_integer := PySem.W.mg_of X G a_is_integer,
    b_is_integer := (fun_mk (st := s_is_integer) l_is_integer c_is_integer k_is_integer).binds (ps := ["value"]) fun _ _ _ _ _ _ us hl => match us, hl with | [_], _ => rfl,
    f_is_count := _, fd_is_count := _, F_is_count := fun_mk (st := s_is_count) l_is_count c_is_count k_is_count,
    g_is_count := PySem.W.mg_of X G a_is_count,
    b_is_count := (fun_mk (st := s_is_count) l_is_count c_is_count k_is_count).binds (ps := ["value"]) fun _ _ _ _ _ _ us hl => match us, hl with | [_], _ => rfl,
    f_is_between := _, fd_is_between := _, F_is_between := fun_mk (st := s_is_between) l_is_between c_is_between k_is_between,
    g_is_between := PySem.W.mg_of X G a_is_between,
    b_is_between := (fun_mk (st := s_is_between) l_is_between c_is_between k_is_between).binds (ps := ["value", "least", "most"]) fun _ _ _ _ _ _ us hl => match us, hl with | [_, _, _], _ => rfl,
    f_is_list := _, fd_is_list := _, F_is_list := fun_mk (st := s_is_list) l_is_list c_is_list k_is_list,
    g_is_list := PySem.W.mg_of X G a_is_list,
    b_is_list := (fun_mk (st := s_is_list) l_is_list c_is_list k_is_list).binds (ps := ["value"]) fun _ _ _ _ _ _ us hl => match us, hl with | [_], _ => rfl,
    f_need_many := _, fd_need_many := _, F_need_many := fun_mk (st := s_need_many) l_need_many c_need_many k_need_many,
    g_need_many := PySem.W.mg_of X G a_need_many,
    b_need_many := (fun_mk (st := s_need_many) l_need_many c_need_many k_need_many).binds (ps := ["value", "least", "most"]) fun _ _ _ _ _ _ us hl => match us, hl with | [_, _, _], _ => rfl,
    f_need_number := _, fd_need_number := _, F_need_number := fun_mk (st := s_need_number) l_need_number c_need_number k_need_number,
    g_need_number := PySem.W.mg_of X G a_need_number,
    b_need_number := (fun_mk (st := s_need_number) l_need_number c_need_number k_need_number).binds (ps := ["value"]) fun _ _ _ _ _ _ us hl => match us, hl with | [_], _ => rfl,
    f_drop_from := _, fd_drop_from := _, F_drop_from := fun_mk (st := s_drop_from) l_drop_from c_drop_from k_drop_from,
    g_drop_from := PySem.W.mg_of X G a_drop_from,
    b_drop_from := (fun_mk (st := s_drop_from) l_drop_from c_drop_from k_drop_from).binds (ps := ["rows", "number"]) fun _ _ _ _ _ _ us hl => match us, hl with | [_, _], _ => rfl,
    mk_Whims := ⟨mk_Whims, a_Whims_init, i_Whims_init, kc_Whims⟩,
    f_Whims_init := _, fd_Whims_init := _, F_Whims_init := fun_mk (st := s_Whims_init) l_Whims_init c_Whims_init k_Whims_init,
    b_Whims_init := (fun_mk (st := s_Whims_init) l_Whims_init c_Whims_init k_Whims_init).binds (ps := ["self", "numbers"]) fun _ _ _ _ _ _ us hl => match us, hl with | [_, _], _ => rfl,
    me_Whims_take := ⟨a_Whims_take, i_Whims_take, k_Whims_take⟩,
    f_Whims_take := _, fd_Whims_take := _, F_Whims_take := fun_mk (st := s_Whims_take) l_Whims_take c_Whims_take k_Whims_take,
    b_Whims_take := (fun_mk (st := s_Whims_take) l_Whims_take c_Whims_take k_Whims_take).binds (ps := ["self", "many"]) fun _ _ _ _ _ _ us hl => match us, hl with | [_, _], _ => rfl,
    pa_Whims_taken := pa_Whims_taken, p_Whims_taken := ⟨a_Whims_taken, pg_Whims_taken, pt_Whims_taken, ⟨_, pq_Whims_taken⟩⟩,
    f_Whims_taken := _, fd_Whims_taken := _, F_Whims_taken := fun_mk (st := s_Whims_taken) l_Whims_taken c_Whims_taken k_Whims_taken,
    b_Whims_taken := (fun_mk (st := s_Whims_taken) l_Whims_taken c_Whims_taken k_Whims_taken).binds (ps := ["self"]) fun _ _ _ _ _ _ us hl => match us, hl with | [_], _ => rfl,
    f_are_whims := _, fd_are_whims := _, F_are_whims := fun_mk (st := s_are_whims) l_are_whims c_are_whims k_are_whims,
    g_are_whims := PySem.W.mg_of X G a_are_whims,
    b_are_whims := (fun_mk (st := s_are_whims) l_are_whims c_are_whims k_are_whims).binds (ps := ["value"]) fun _ _ _ _ _ _ us hl => match us, hl with | [_], _ => rfl,
    f_need_whims := _, fd_need_whims := _, F_need_whims := fun_mk (st := s_need_whims) l_need_whims c_need_whims k_need_whims,
    g_need_whims := PySem.W.mg_of X G a_need_whims,
    b_need_whims := (fun_mk (st := s_need_whims) l_need_whims c_need_whims k_need_whims).binds (ps := ["value"]) fun _ _ _ _ _ _ us hl => match us, hl with | [_], _ => rfl,
    mk_Stations := ⟨mk_Stations, a_Stations_init, i_Stations_init, kc_Stations⟩,
    f_Stations_init := _, fd_Stations_init := _, F_Stations_init := fun_mk (st := s_Stations_init) l_Stations_init c_Stations_init k_Stations_init,
    b_Stations_init := (fun_mk (st := s_Stations_init) l_Stations_init c_Stations_init k_Stations_init).binds (ps := ["self", "many"]) fun _ _ _ _ _ _ us hl => match us, hl with | [_, _], _ => rfl,
    pa_Stations_held := pa_Stations_held, p_Stations_held := ⟨a_Stations_held, pg_Stations_held, pt_Stations_held, ⟨_, pq_Stations_held⟩⟩,
    f_Stations_held := _, fd_Stations_held := _, F_Stations_held := fun_mk (st := s_Stations_held) l_Stations_held c_Stations_held k_Stations_held,
    b_Stations_held := (fun_mk (st := s_Stations_held) l_Stations_held c_Stations_held k_Stations_held).binds (ps := ["self"]) fun _ _ _ _ _ _ us hl => match us, hl with | [_], _ => rfl,
    me_Stations_put := ⟨a_Stations_put, i_Stations_put, k_Stations_put⟩,
    f_Stations_put := _, fd_Stations_put := _, F_Stations_put := fun_mk (st := s_Stations_put) l_Stations_put c_Stations_put k_Stations_put,
    b_Stations_put := (fun_mk (st := s_Stations_put) l_Stations_put c_Stations_put k_Stations_put).binds (ps := ["self", "number", "reads", "ready"]) fun _ _ _ _ _ _ us hl => match us, hl with | [_, _, _, _], _ => rfl,
    me_Stations_woken := ⟨a_Stations_woken, i_Stations_woken, k_Stations_woken⟩,
    f_Stations_woken := _, fd_Stations_woken := _, F_Stations_woken := fun_mk (st := s_Stations_woken) l_Stations_woken c_Stations_woken k_Stations_woken,
    b_Stations_woken := (fun_mk (st := s_Stations_woken) l_Stations_woken c_Stations_woken k_Stations_woken).binds (ps := ["self", "at"]) fun _ _ _ _ _ _ us hl => match us, hl with | [_, _], _ => rfl,
    me_Stations_ready := ⟨a_Stations_ready, i_Stations_ready, k_Stations_ready⟩,
    f_Stations_ready := _, fd_Stations_ready := _, F_Stations_ready := fun_mk (st := s_Stations_ready) l_Stations_ready c_Stations_ready k_Stations_ready,
    b_Stations_ready := (fun_mk (st := s_Stations_ready) l_Stations_ready c_Stations_ready k_Stations_ready).binds (ps := ["self"]) fun _ _ _ _ _ _ us hl => match us, hl with | [_], _ => rfl,
    me_Stations_waits_for := ⟨a_Stations_waits_for, i_Stations_waits_for, k_Stations_waits_for⟩,
    f_Stations_waits_for := _, fd_Stations_waits_for := _, F_Stations_waits_for := fun_mk (st := s_Stations_waits_for) l_Stations_waits_for c_Stations_waits_for k_Stations_waits_for,
    b_Stations_waits_for := (fun_mk (st := s_Stations_waits_for) l_Stations_waits_for c_Stations_waits_for k_Stations_waits_for).binds (ps := ["self", "number"]) fun _ _ _ _ _ _ us hl => match us, hl with | [_, _], _ => rfl,
    me_Stations_reads := ⟨a_Stations_reads, i_Stations_reads, k_Stations_reads⟩,
    f_Stations_reads := _, fd_Stations_reads := _, F_Stations_reads := fun_mk (st := s_Stations_reads) l_Stations_reads c_Stations_reads k_Stations_reads,
    b_Stations_reads := (fun_mk (st := s_Stations_reads) l_Stations_reads c_Stations_reads k_Stations_reads).binds (ps := ["self", "number"]) fun _ _ _ _ _ _ us hl => match us, hl with | [_, _], _ => rfl,
    me_Stations_picked := ⟨a_Stations_picked, i_Stations_picked, k_Stations_picked⟩,
    f_Stations_picked := _, fd_Stations_picked := _, F_Stations_picked := fun_mk (st := s_Stations_picked) l_Stations_picked c_Stations_picked k_Stations_picked,
    b_Stations_picked := (fun_mk (st := s_Stations_picked) l_Stations_picked c_Stations_picked k_Stations_picked).binds (ps := ["self", "number"]) fun _ _ _ _ _ _ us hl => match us, hl with | [_, _], _ => rfl,
    me_Stations_chosen := ⟨a_Stations_chosen, i_Stations_chosen, k_Stations_chosen⟩,
    f_Stations_chosen := _, fd_Stations_chosen := _, F_Stations_chosen := fun_mk (st := s_Stations_chosen) l_Stations_chosen c_Stations_chosen k_Stations_chosen,
    b_Stations_chosen := (fun_mk (st := s_Stations_chosen) l_Stations_chosen c_Stations_chosen k_Stations_chosen).binds (ps := ["self", "oldest", "whims", "twist"]) fun _ _ _ _ _ _ us hl => match us, hl with | [_, _, _, _], _ => rfl,
    me_Stations_numbers := ⟨a_Stations_numbers, i_Stations_numbers, k_Stations_numbers⟩,
    f_Stations_numbers := _, fd_Stations_numbers := _, F_Stations_numbers := fun_mk (st := s_Stations_numbers) l_Stations_numbers c_Stations_numbers k_Stations_numbers,
    b_Stations_numbers := (fun_mk (st := s_Stations_numbers) l_Stations_numbers c_Stations_numbers k_Stations_numbers).binds (ps := ["self"]) fun _ _ _ _ _ _ us hl => match us, hl with | [_], _ => rfl,
    me_Stations_dropped := ⟨a_Stations_dropped, i_Stations_dropped, k_Stations_dropped⟩,
    f_Stations_dropped := _, fd_Stations_dropped := _, F_Stations_dropped := fun_mk (st := s_Stations_dropped) l_Stations_dropped c_Stations_dropped k_Stations_dropped,
    b_Stations_dropped := (fun_mk (st := s_Stations_dropped) l_Stations_dropped c_Stations_dropped k_Stations_dropped).binds (ps := ["self", "number"]) fun _ _ _ _ _ _ us hl => match us, hl with | [_, _], _ => rfl,
    me_Stations_copy := ⟨a_Stations_copy, i_Stations_copy, k_Stations_copy⟩,
    f_Stations_copy := _, fd_Stations_copy := _, F_Stations_copy := fun_mk (st := s_Stations_copy) l_Stations_copy c_Stations_copy k_Stations_copy,
    b_Stations_copy := (fun_mk (st := s_Stations_copy) l_Stations_copy c_Stations_copy k_Stations_copy).binds (ps := ["self"]) fun _ _ _ _ _ _ us hl => match us, hl with | [_], _ => rfl,
    me_Stationsrow := ⟨a_Stationsrow, i_Stationsrow, k_Stationsrow⟩,
    f_Stationsrow := _, fd_Stationsrow := _, F_Stationsrow := fun_mk (st := s_Stationsrow) l_Stationsrow c_Stationsrow k_Stationsrow,
    b_Stationsrow := (fun_mk (st := s_Stationsrow) l_Stationsrow c_Stationsrow k_Stationsrow).binds (ps := ["self", "number"]) fun _ _ _ _ _ _ us hl => match us, hl with | [_, _], _ => rfl,
    f__is_register_place := _, fd__is_register_place := _, F__is_register_place := fun_mk (st := s__is_register_place) l__is_register_place c__is_register_place k__is_register_place,
    g__is_register_place := PySem.W.mg_of X G a__is_register_place,
    b__is_register_place := (fun_mk (st := s__is_register_place) l__is_register_place c__is_register_place k__is_register_place).binds (ps := ["value"]) fun _ _ _ _ _ _ us hl => match us, hl with | [_], _ => rfl,
    f__need_reads := _, fd__need_reads := _, F__need_reads := fun_mk (st := s__need_reads) l__need_reads c__need_reads k__need_reads,
    g__need_reads := PySem.W.mg_of X G a__need_reads,
    b__need_reads := (fun_mk (st := s__need_reads) l__need_reads c__need_reads k__need_reads).binds (ps := ["value", "most"]) fun _ _ _ _ _ _ us hl => match us, hl with | [_, _], _ => rfl,
    f_Lpot := _, fd_Lpot := _, F_Lpot := fun_mk (st := s_Lpot) l_Lpot c_Lpot k_Lpot,
    g_Lpot := PySem.W.mg_of X G a_Lpot,
    b_Lpot := (fun_mk (st := s_Lpot) l_Lpot c_Lpot k_Lpot).binds (ps := ["_law_script", "_law_k"]) fun _ _ _ _ _ _ us hl => match us, hl with | [_, _], _ => rfl,
    f_Ldraw := _, fd_Ldraw := _, F_Ldraw := fun_mk (st := s_Ldraw) l_Ldraw c_Ldraw k_Ldraw,
    g_Ldraw := PySem.W.mg_of X G a_Ldraw,
    b_Ldraw := (fun_mk (st := s_Ldraw) l_Ldraw c_Ldraw k_Ldraw).binds (ps := ["_law_pot_here", "_law_sides"]) fun _ _ _ _ _ _ us hl => match us, hl with | [_, _], _ => rfl,
    f_Lpick := _, fd_Lpick := _, F_Lpick := fun_mk (st := s_Lpick) l_Lpick c_Lpick k_Lpick,
    g_Lpick := PySem.W.mg_of X G a_Lpick,
    b_Lpick := (fun_mk (st := s_Lpick) l_Lpick c_Lpick k_Lpick).binds (ps := ["_law_pot_here", "_law_some"]) fun _ _ _ _ _ _ us hl => match us, hl with | [_, _], _ => rfl,
    f_Lseen := _, fd_Lseen := _, F_Lseen := fun_mk (st := s_Lseen) l_Lseen c_Lseen k_Lseen,
    g_Lseen := PySem.W.mg_of X G a_Lseen,
    b_Lseen := (fun_mk (st := s_Lseen) l_Lseen c_Lseen k_Lseen).binds (ps := ["_law_rows", "_law_own"]) fun _ _ _ _ _ _ us hl => match us, hl with | [_, _], _ => rfl,
    f_Lplaces := _, fd_Lplaces := _, F_Lplaces := fun_mk (st := s_Lplaces) l_Lplaces c_Lplaces k_Lplaces,
    g_Lplaces := PySem.W.mg_of X G a_Lplaces,
    b_Lplaces := (fun_mk (st := s_Lplaces) l_Lplaces c_Lplaces k_Lplaces).binds (ps := ["_law_pot_here", "_law_most"]) fun _ _ _ _ _ _ us hl => match us, hl with | [_, _], _ => rfl,
    f_Ldue := _, fd_Ldue := _, F_Ldue := fun_mk (st := s_Ldue) l_Ldue c_Ldue k_Ldue,
    g_Ldue := PySem.W.mg_of X G a_Ldue,
    b_Ldue := (fun_mk (st := s_Ldue) l_Ldue c_Ldue k_Ldue).binds (ps := ["_law_own", "_law_oldest", "_law_numbers", "_law_taken", "_law_twist"]) fun _ _ _ _ _ _ us hl => match us, hl with | [_, _, _, _, _], _ => rfl,
    f_Lchosen_right := _, fd_Lchosen_right := _, F_Lchosen_right := fun_mk (st := s_Lchosen_right) l_Lchosen_right c_Lchosen_right k_Lchosen_right,
    g_Lchosen_right := PySem.W.mg_of X G a_Lchosen_right,
    b_Lchosen_right := (fun_mk (st := s_Lchosen_right) l_Lchosen_right c_Lchosen_right k_Lchosen_right).binds (ps := ["_law_pot_here", "_law_rows", "_law_own", "_law_whims", "_law_numbers"]) fun _ _ _ _ _ _ us hl => match us, hl with | [_, _, _, _, _], _ => rfl,
    f_Lput := _, fd_Lput := _, F_Lput := fun_mk (st := s_Lput) l_Lput c_Lput k_Lput,
    g_Lput := PySem.W.mg_of X G a_Lput,
    b_Lput := (fun_mk (st := s_Lput) l_Lput c_Lput k_Lput).binds (ps := ["_law_pot_here", "_law_rows", "_law_own", "_law_number", "_law_most"]) fun _ _ _ _ _ _ us hl => match us, hl with | [_, _, _, _, _], _ => rfl,
    f_Lright := _, fd_Lright := _, F_Lright := fun_mk (st := s_Lright) l_Lright c_Lright k_Lright,
    g_Lright := PySem.W.mg_of X G a_Lright,
    b_Lright := (fun_mk (st := s_Lright) l_Lright c_Lright k_Lright).binds (ps := ["_law_pot_here"]) fun _ _ _ _ _ _ us hl => match us, hl with | [_], _ => rfl,
    f_law := _, fd_law := _, F_law := fun_mk (st := s_law) l_law c_law k_law,
    g_law := PySem.W.mg_of X G a_law,
    b_law := (fun_mk (st := s_law) l_law c_law k_law).binds (ps := ["_law_script"]) fun _ _ _ _ _ _ us hl => match us, hl with | [_], _ => rfl,
    m_abs := PySem.W.mg_none_of X G z_abs,
    m_all := PySem.W.mg_none_of X G z_all,
    m_bool := PySem.W.mg_none_of X G z_bool,
    m_dict := PySem.W.mg_none_of X G z_dict,
    m_divmod := PySem.W.mg_none_of X G z_divmod,
    m_int := PySem.W.mg_none_of X G z_int,
    m_isinstance := PySem.W.mg_none_of X G z_isinstance,
    m_len := PySem.W.mg_none_of X G z_len,
    m_list := PySem.W.mg_none_of X G z_list,
    m_max := PySem.W.mg_none_of X G z_max,
    m_min := PySem.W.mg_none_of X G z_min,
    m_range := PySem.W.mg_none_of X G z_range,
    m_set := PySem.W.mg_none_of X G z_set,
    m_sorted := PySem.W.mg_none_of X G z_sorted,
    m_tuple := PySem.W.mg_none_of X G z_tuple,
    c__MOST_NUMBERS := ⟨_, PySem.W.mg_of X G x__MOST_NUMBERS⟩,
    c__GREATEST := ⟨_, PySem.W.mg_of X G x__GREATEST⟩,
    c__MOST_ROWS := ⟨_, PySem.W.mg_of X G x__MOST_ROWS⟩,
    c__REGISTER_PLACES := ⟨_, PySem.W.mg_of X G x__REGISTER_PLACES⟩,
    c__MOST_READS := ⟨_, PySem.W.mg_of X G x__MOST_READS⟩,
    c__MOST_READY := ⟨_, PySem.W.mg_of X G x__MOST_READY⟩,
    ic_Whims := ic_Whims,
    in_Whims := in_Whims,
    it_Whims := it_Whims,
    im_Whims := im_Whims }
  exact ⟨_, fun s v => .of_eq rfl, fun base _ _ => ok_law (P := l.prog) (w := w) (base := base) T⟩
theorem walk {l : PySem.W.OpenLaw} {q : Program} {loose : List Str} {XP : (Str → Option Value) → Heap → Prop} {YP : World → Heap → Prop} {d : DefRec} {K : Params → PySem.W.Frag} (hn : l.most = some 63) (hdf : d.params.defaults = [])
    (hY : ∀ (w : World) (h : Heap), YP w h → (K w.params).In h)
    (F : ∀ (w : World) (mg : Str → Option Value) (fa : Addr) (h : Heap), (K w.params).In h → h.Ns mainGlobals mg → mg d.name = some (.ref fa) →
      ∃ fd : FuncData, (∀ (s : Shared) (u : Value), BindsTo s fd ⟨[u], []⟩ [("_law_script", u)]) ∧ ∀ base : Heap, (K w.params).In base → base.Ns mainGlobals mg → FnOk l.prog w (K w.params) mg base CX0 8 fa fd ["_law_script"] (sp_law (K w.params))) :
    PySem.W.WalkO q loose XP YP l.row.toRowW d [] (fun f vs => PySem.call f vs) :=
  L2.walk_of (n := 63) (k := 8) (x := "_law_script") (CX := fun _ => CX0) (sp := fun w => sp_law (K w.params)) hn (by decide) hdf ⟨rfl, by decide, by decide⟩ hY F (fun _ _ a ns hl _ hS => ⟨a, ns, rfl, hS, hl, fun _ => rfl⟩) fun _ _ _ _ _ z => z
end K72
open PySem PySem.W PyProof.Rows
set_option maxRecDepth 100000 in
set_option maxHeartbeats 0 in
theorem PySem.Challenge.cw_orderlycore_k72_whole_stations_by_waking_holds : PySem.Challenge.rw_orderlycore_k72_whole_stations_by_waking.Holds := by
  w_on; o_law; k_head; (case hw => w_witness2)
  k_fill
  refine K72.walk (l := PySem.Challenge.rw_orderlycore_k72_whole_stations_by_waking) rfl rfl (fun w h Y => PySem.W.kIn_of Y) ?F
  case F =>
    intro w mg fa h KX G hmg
    refine' K72.all_mk KX G hmg ?aC_Whims ?pg_Whims ?hd_Whims ?po_Whims ?sa_Whims ?mk_Whims ?kc_Whims ?n_Whims_numbers ?n_Whims_position ?aC_Stations ?pg_Stations ?hd_Stations ?po_Stations ?sa_Stations ?mk_Stations ?kc_Stations ?n_Stations_many ?n_Stations_rows ?a_is_integer ?l_is_integer ?c_is_integer ?k_is_integer ?a_is_count ?l_is_count ?c_is_count ?k_is_count ?a_is_between ?l_is_between ?c_is_between ?k_is_between ?a_is_list ?l_is_list ?c_is_list ?k_is_list ?a_need_many ?l_need_many ?c_need_many ?k_need_many ?a_need_number ?l_need_number ?c_need_number ?k_need_number ?a_drop_from ?l_drop_from ?c_drop_from ?k_drop_from ?a_Whims_init ?i_Whims_init ?l_Whims_init ?c_Whims_init ?k_Whims_init ?a_Whims_take ?i_Whims_take ?l_Whims_take ?c_Whims_take ?k_Whims_take ?a_Whims_taken ?pg_Whims_taken ?pt_Whims_taken ?pq_Whims_taken ?l_Whims_taken ?c_Whims_taken ?k_Whims_taken ?a_are_whims ?l_are_whims ?c_are_whims ?k_are_whims ?a_need_whims ?l_need_whims ?c_need_whims ?k_need_whims ?a_Stations_init ?i_Stations_init ?l_Stations_init ?c_Stations_init ?k_Stations_init ?a_Stations_held ?pg_Stations_held ?pt_Stations_held ?pq_Stations_held ?l_Stations_held ?c_Stations_held ?k_Stations_held ?a_Stations_put ?i_Stations_put ?l_Stations_put ?c_Stations_put ?k_Stations_put ?a_Stations_woken ?i_Stations_woken ?l_Stations_woken ?c_Stations_woken ?k_Stations_woken ?a_Stations_ready ?i_Stations_ready ?l_Stations_ready ?c_Stations_ready ?k_Stations_ready ?a_Stations_waits_for ?i_Stations_waits_for ?l_Stations_waits_for ?c_Stations_waits_for ?k_Stations_waits_for ?a_Stations_reads ?i_Stations_reads ?l_Stations_reads ?c_Stations_reads ?k_Stations_reads ?a_Stations_picked ?i_Stations_picked ?l_Stations_picked ?c_Stations_picked ?k_Stations_picked ?a_Stations_chosen ?i_Stations_chosen ?l_Stations_chosen ?c_Stations_chosen ?k_Stations_chosen ?a_Stations_numbers ?i_Stations_numbers ?l_Stations_numbers ?c_Stations_numbers ?k_Stations_numbers ?a_Stations_dropped ?i_Stations_dropped ?l_Stations_dropped ?c_Stations_dropped ?k_Stations_dropped ?a_Stations_copy ?i_Stations_copy ?l_Stations_copy ?c_Stations_copy ?k_Stations_copy ?a_Stationsrow ?i_Stationsrow ?l_Stationsrow ?c_Stationsrow ?k_Stationsrow ?a__is_register_place ?l__is_register_place ?c__is_register_place ?k__is_register_place ?a__need_reads ?l__need_reads ?c__need_reads ?k__need_reads ?a_Lpot ?l_Lpot ?c_Lpot ?k_Lpot ?a_Ldraw ?l_Ldraw ?c_Ldraw ?k_Ldraw ?a_Lpick ?l_Lpick ?c_Lpick ?k_Lpick ?a_Lseen ?l_Lseen ?c_Lseen ?k_Lseen ?a_Lplaces ?l_Lplaces ?c_Lplaces ?k_Lplaces ?a_Ldue ?l_Ldue ?c_Ldue ?k_Ldue ?a_Lchosen_right ?l_Lchosen_right ?c_Lchosen_right ?k_Lchosen_right ?a_Lput ?l_Lput ?c_Lput ?k_Lput ?a_Lright ?l_Lright ?c_Lright ?k_Lright ?a_law ?l_law ?c_law ?k_law ?z_abs ?z_all ?z_bool ?z_dict ?z_divmod ?z_int ?z_isinstance ?z_len ?z_list ?z_max ?z_min ?z_range ?z_set ?z_sorted ?z_tuple ?x__MOST_NUMBERS ?x__GREATEST ?x__MOST_ROWS ?x__REGISTER_PLACES ?x__MOST_READS ?x__MOST_READY ?ic_Whims ?in_Whims ?it_Whims ?im_Whims
    (case aC_Whims => k_is)
    (case pg_Whims => k_is)
    (case hd_Whims => k_is)
    (case po_Whims => k_is)
    (case sa_Whims => k_is)
    (case mk_Whims => k_is)
    (case kc_Whims => k_is)
    (case n_Whims_numbers => k_is)
    (case n_Whims_position => k_is)
    (case aC_Stations => k_is)
    (case pg_Stations => k_is)
    (case hd_Stations => k_is)
    (case po_Stations => k_is)
    (case sa_Stations => k_is)
    (case mk_Stations => k_is)
    (case kc_Stations => k_is)
    (case n_Stations_many => k_is)
    (case n_Stations_rows => k_is)
    (case a_is_integer => k_is)
    (case l_is_integer => k_is)
    (case c_is_integer => k_is)
    (case k_is_integer => k_is)
    (case a_is_count => k_is)
    (case l_is_count => k_is)
    (case c_is_count => k_is)
    (case k_is_count => k_is)
    (case a_is_between => k_is)
    (case l_is_between => k_is)
    (case c_is_between => k_is)
    (case k_is_between => k_is)
    (case a_is_list => k_is)
    (case l_is_list => k_is)
    (case c_is_list => k_is)
    (case k_is_list => k_is)
    (case a_need_many => k_is)
    (case l_need_many => k_is)
    (case c_need_many => k_is)
    (case k_need_many => k_is)
    (case a_need_number => k_is)
    (case l_need_number => k_is)
    (case c_need_number => k_is)
    (case k_need_number => k_is)
    (case a_drop_from => k_is)
    (case l_drop_from => k_is)
    (case c_drop_from => k_is)
    (case k_drop_from => k_is)
    (case a_Whims_init => k_is)
    (case i_Whims_init => k_is)
    (case l_Whims_init => k_is)
    (case c_Whims_init => k_is)
    (case k_Whims_init => k_is)
    (case a_Whims_take => k_is)
    (case i_Whims_take => k_is)
    (case l_Whims_take => k_is)
    (case c_Whims_take => k_is)
    (case k_Whims_take => k_is)
    (case a_Whims_taken => k_is)
    (case pg_Whims_taken => k_is)
    (case pt_Whims_taken => k_is)
    (case pq_Whims_taken => k_is)
    (case l_Whims_taken => k_is)
    (case c_Whims_taken => k_is)
    (case k_Whims_taken => k_is)
    (case a_are_whims => k_is)
    (case l_are_whims => k_is)
    (case c_are_whims => k_is)
    (case k_are_whims => k_is)
    (case a_need_whims => k_is)
    (case l_need_whims => k_is)
    (case c_need_whims => k_is)
    (case k_need_whims => k_is)
    (case a_Stations_init => k_is)
    (case i_Stations_init => k_is)
    (case l_Stations_init => k_is)
    (case c_Stations_init => k_is)
    (case k_Stations_init => k_is)
    (case a_Stations_held => k_is)
    (case pg_Stations_held => k_is)
    (case pt_Stations_held => k_is)
    (case pq_Stations_held => k_is)
    (case l_Stations_held => k_is)
    (case c_Stations_held => k_is)
    (case k_Stations_held => k_is)
    (case a_Stations_put => k_is)
    (case i_Stations_put => k_is)
    (case l_Stations_put => k_is)
    (case c_Stations_put => k_is)
    (case k_Stations_put => k_is)
    (case a_Stations_woken => k_is)
    (case i_Stations_woken => k_is)
    (case l_Stations_woken => k_is)
    (case c_Stations_woken => k_is)
    (case k_Stations_woken => k_is)
    (case a_Stations_ready => k_is)
    (case i_Stations_ready => k_is)
    (case l_Stations_ready => k_is)
    (case c_Stations_ready => k_is)
    (case k_Stations_ready => k_is)
    (case a_Stations_waits_for => k_is)
    (case i_Stations_waits_for => k_is)
    (case l_Stations_waits_for => k_is)
    (case c_Stations_waits_for => k_is)
    (case k_Stations_waits_for => k_is)
    (case a_Stations_reads => k_is)
    (case i_Stations_reads => k_is)
    (case l_Stations_reads => k_is)
    (case c_Stations_reads => k_is)
    (case k_Stations_reads => k_is)
    (case a_Stations_picked => k_is)
    (case i_Stations_picked => k_is)
    (case l_Stations_picked => k_is)
    (case c_Stations_picked => k_is)
    (case k_Stations_picked => k_is)
    (case a_Stations_chosen => k_is)
    (case i_Stations_chosen => k_is)
    (case l_Stations_chosen => k_is)
    (case c_Stations_chosen => k_is)
    (case k_Stations_chosen => k_is)
    (case a_Stations_numbers => k_is)
    (case i_Stations_numbers => k_is)
    (case l_Stations_numbers => k_is)
    (case c_Stations_numbers => k_is)
    (case k_Stations_numbers => k_is)
    (case a_Stations_dropped => k_is)
    (case i_Stations_dropped => k_is)
    (case l_Stations_dropped => k_is)
    (case c_Stations_dropped => k_is)
    (case k_Stations_dropped => k_is)
    (case a_Stations_copy => k_is)
    (case i_Stations_copy => k_is)
    (case l_Stations_copy => k_is)
    (case c_Stations_copy => k_is)
    (case k_Stations_copy => k_is)
    (case a_Stationsrow => k_is)
    (case i_Stationsrow => k_is)
    (case l_Stationsrow => k_is)
    (case c_Stationsrow => k_is)
    (case k_Stationsrow => k_is)
    (case a__is_register_place => k_is)
    (case l__is_register_place => k_is)
    (case c__is_register_place => k_is)
    (case k__is_register_place => k_is)
    (case a__need_reads => k_is)
    (case l__need_reads => k_is)
    (case c__need_reads => k_is)
    (case k__need_reads => k_is)
    (case a_Lpot => k_is)
    (case l_Lpot => k_is)
    (case c_Lpot => k_is)
    (case k_Lpot => k_is)
    (case a_Ldraw => k_is)
    (case l_Ldraw => k_is)
    (case c_Ldraw => k_is)
    (case k_Ldraw => k_is)
    (case a_Lpick => k_is)
    (case l_Lpick => k_is)
    (case c_Lpick => k_is)
    (case k_Lpick => k_is)
    (case a_Lseen => k_is)
    (case l_Lseen => k_is)
    (case c_Lseen => k_is)
    (case k_Lseen => k_is)
    (case a_Lplaces => k_is)
    (case l_Lplaces => k_is)
    (case c_Lplaces => k_is)
    (case k_Lplaces => k_is)
    (case a_Ldue => k_is)
    (case l_Ldue => k_is)
    (case c_Ldue => k_is)
    (case k_Ldue => k_is)
    (case a_Lchosen_right => k_is)
    (case l_Lchosen_right => k_is)
    (case c_Lchosen_right => k_is)
    (case k_Lchosen_right => k_is)
    (case a_Lput => k_is)
    (case l_Lput => k_is)
    (case c_Lput => k_is)
    (case k_Lput => k_is)
    (case a_Lright => k_is)
    (case l_Lright => k_is)
    (case c_Lright => k_is)
    (case k_Lright => k_is)
    (case a_law => k_is)
    (case l_law => k_is)
    (case c_law => k_is)
    (case k_law => k_is)
    (case z_abs => k_is)
    (case z_all => k_is)
    (case z_bool => k_is)
    (case z_dict => k_is)
    (case z_divmod => k_is)
    (case z_int => k_is)
    (case z_isinstance => k_is)
    (case z_len => k_is)
    (case z_list => k_is)
    (case z_max => k_is)
    (case z_min => k_is)
    (case z_range => k_is)
    (case z_set => k_is)
    (case z_sorted => k_is)
    (case z_tuple => k_is)
    (case x__MOST_NUMBERS => k_is)
    (case x__GREATEST => k_is)
    (case x__MOST_ROWS => k_is)
    (case x__REGISTER_PLACES => k_is)
    (case x__MOST_READS => k_is)
    (case x__MOST_READY => k_is)
    (case ic_Whims => k_is)
    (case in_Whims => k_is)
    (case it_Whims => k_is)
    (case im_Whims => k_is)


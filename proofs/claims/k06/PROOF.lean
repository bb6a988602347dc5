import PyProof.Rows.All
import Wide.All
import OpenK.AllK
import Wide.FinOn
import PyProof.EqAt
import PyProof.EqKinds
import PyProof.TupleCall
import HandS.ForMost
import HandS.ForExc
import HandS.IsInst
import HandS.Conv
import HandS.Wide
import HandS.ExcInit
import HandS.ExcField
import HandS.ExcIs
import HandS.EndBits
import HandS.Evl
import HandS.Codes
import HandS.Steps
import KE.DataMinMax
import KE.KIsAll
import KE.KTryMore
import HandS.TupLe
import PyProof.FString5
import HandS.Lambda
import HandS.Nested
import HandS.FromBytesMap
import KE.KMinKey
import HandS.EndTab
import KE.DataEq
import KE.DataCmp
import KE.DatumOrd
import HandS.TupSets
import HandS.DictComp
import HandS.DictTup
import HandS.Flow
import HandS.Style
import HandS.Property
import HandS.Deep
import HandS.SetKeys
import HandS.TupAny
import HandS.TupMul
import HandS.Gcd
import HandS.Text
import KE.IntText
import PySem.Challenge.RW_falseglim_k06_whole_shortest_text
import KE.RegKIsAll
import KE.KNestM
set_option Elab.async false
set_option linter.all false
set_option maxRecDepth 100000
set_option maxHeartbeats 4000000
namespace Fg
open PySem PySem.Spec PyProof.Rows L2

/-! ### texts as lists of signs -/
def S (l : List Nat) : Str := ⟨l.toArray⟩
theorem S_len (l : List Nat) : (S l).length = l.length := by
  show l.toArray.size = l.length
  simp
theorem S_app (l m : List Nat) : S l ++ S m = S (l ++ m) := by
  show Str.append (S l) (S m) = S (l ++ m)
  unfold Str.append S
  simp
theorem S_cps (l : List Nat) : (S l).cps.toList = l := by simp [S]
theorem S_inj {l m : List Nat} (h : S l = S m) : l = m := by
  have h2 := congrArg (fun z : Str => z.cps.toList) h
  simpa [S_cps] using h2
theorem S_eq {l m : List Nat} : (S l = S m) ↔ l = m := ⟨S_inj, fun h => by rw [h]⟩
theorem S_of (z : Str) : ∃ l, z = S l := ⟨z.cps.toList, by cases z; simp [S]⟩
def cutL (l : List Nat) (lo hi : Option Int) : List Nat := (l.drop (HT.sIx l.length 0 lo)).take (HT.sIx l.length l.length hi - HT.sIx l.length 0 lo)
theorem S_cut (l : List Nat) (lo hi : Option Int) : cutS (S l) lo hi = S (cutL l lo hi) := by
  unfold cutS cutL
  rw [S_len, S_cps]
  rfl
theorem sIx_pos {n d : Nat} {i : Int} (h : 0 ≤ i) : HT.sIx n d (some i) = min i.toNat n := by
  show (if i < 0 then (i + (n : Int)).toNat else min i.toNat n) = _
  rw [if_neg (by omega)]
theorem cut_from {l : List Nat} {i : Int} (h : 0 ≤ i) : cutL l (some i) none = l.drop i.toNat := by
  unfold cutL
  rw [sIx_pos h, HT.sIx_none]
  by_cases h2 : i.toNat ≤ l.length
  · rw [Nat.min_eq_left h2]
    apply List.take_of_length_le
    rw [List.length_drop]
    omega
  · rw [Nat.min_eq_right (by omega), List.drop_eq_nil_of_le (by omega), List.drop_eq_nil_of_le (by omega), List.take_nil]
theorem cut_to {l : List Nat} {i : Int} (h : 0 ≤ i) : cutL l none (some i) = l.take i.toNat := by
  unfold cutL
  rw [sIx_pos h, HT.sIx_none]
  show List.take (min i.toNat l.length - 0) (List.drop 0 l) = _
  rw [List.drop_zero, Nat.sub_zero]
  by_cases h2 : i.toNat ≤ l.length
  · rw [Nat.min_eq_left h2]
  · rw [Nat.min_eq_right (by omega), List.take_of_length_le (Nat.le_refl _), List.take_of_length_le (by omega)]

/-! ### operations by signs -/
def rCatS : R2 := fun x y H Q => ∃ i j, x = .str (S i) ∧ y = .str (S j) ∧ i.length + j.length ≤ sizeLine ∧ Q (.str (S (i ++ j))) H
def rSlSS : V → Option Int → Option Int → Hp → VK → Prop := fun x lo hi H Q => ∃ l, x = .str (S l) ∧ l.length ≤ sizeLine ∧ Q (.str (S (cutL l lo hi))) H
def rIxSS : R2 := fun x y H Q => ∃ l i c, x = .str (S l) ∧ y = .int i ∧ l.length ≤ sizeLine ∧ atI l i = some c ∧ Q (.str (S [c])) H
def rNiS : R2 := fun x y H Q => ∃ (c : Nat) (l : List Nat), x = .str (S [c]) ∧ y = .str (S l) ∧ Q (.bl (!decide (c ∈ l))) H
def rInSS : R2 := fun x y H Q => ∃ (c : Nat) (l : List Nat), x = .str (S [c]) ∧ y = .str (S l) ∧ Q (.bl (decide (c ∈ l))) H
def rRepS : R2 := fun x y H Q => ∃ l k, x = .str (S l) ∧ y = .int k ∧ 0 ≤ k ∧ k < 2 ^ 62 ∧ l.length * k.toNat ≤ sizeLine ∧ Q (.str (S (List.replicate k.toNat l).flatten)) H
def CPowW (i j : Int) : Prop := 0 ≤ j ∧ (Builtin.Int.intBits i : Int) * j ≤ 2 ^ 27
def rLenS : List V → Hp → VK → Prop := fun xs H Q => ∃ l, xs = [.str (S l)] ∧ l.length ≤ sizeLine ∧ Q (.int l.length) H
def rLenQ (K : PySem.W.Frag) : List V → Hp → VK → Prop := fun xs H Q => ∃ p ys, xs = [.ref p] ∧ (SqL K H p ys ∨ SqT K H p ys) ∧ Q (.int ys.length) H
def rJoinS (K : PySem.W.Frag) : V → List V → Hp → VK → Prop := fun x xs H Q => ∃ a p, ∃ ys : List (List Nat), x = .str (S a) ∧ xs = [.ref p] ∧ (SqL K H p (ys.map fun l => V.str (S l)) ∨ SqT K H p (ys.map fun l => V.str (S l))) ∧
  (ys.map (·.length)).sum + ys.length * a.length ≤ 16777216 ∧ Q (.str (S (TL.joinL a ys))) H
section
variable {X : Cx}
theorem op_catS : OpR X (binaryOp .Add) rCatS := by
  intro pins s σ H x y v u Q I rx ry h
  obtain ⟨i, j, rfl, rfl, hl, q⟩ := h
  exact op_add_str pins s σ H _ _ v u Q I rx ry ⟨_, _, rfl, rfl, by rw [S_len, S_len]; exact hl, by rw [S_app]; exact q⟩
theorem sl_strS : SlR X rSlSS := by
  intro pins s σ H x v vl vu lo hi sl Q I rx hs pl pu h
  obtain ⟨l, rfl, hl, q⟩ := h
  exact sl_str pins s σ H _ v vl vu lo hi sl Q I rx hs pl pu ⟨_, rfl, by rw [S_len]; exact hl, by rw [S_cut]; exact q⟩
theorem ix_strS : IxR X rIxSS := by
  intro value slice pins s σ H x y v u Q I rx ry h hs
  obtain ⟨l, i, c, rfl, rfl, hl, ha, q⟩ := h
  exact ix_str value slice pins s σ H _ _ v u Q I rx ry ⟨_, _, c, rfl, rfl, by rw [S_len]; exact hl, by rw [S_cps]; exact ha, q⟩ hs
theorem op_niS : OpR X (compareOp .NotIn) rNiS := by
  intro pins s σ H x y v u Q I rx ry h
  obtain ⟨c, l, rfl, rfl, q⟩ := h
  exact op_notIn_sign pins s σ H _ _ v u Q I rx ry ⟨c, _, rfl, rfl, by rw [S_cps]; exact q⟩
theorem op_inSS : OpR X (compareOp .In) rInSS := by
  intro pins s σ H x y v u Q I rx ry h
  obtain ⟨c, l, rfl, rfl, q⟩ := h
  exact op_in_sign pins s σ H _ _ v u Q I rx ry ⟨c, _, rfl, rfl, by rw [S_cps]; exact q⟩
theorem op_powW : OpR X (binaryOp .Pow) (rI CPowW fun i j => .int (i ^ j.toNat)) := opI fun _ _ _ _ _ _ _ hc q => pow_int hc.1 hc.2 q
theorem call_lenS : CallR X (.builtin "len") rLenS := by
  intro pins s σ H xs us Q I r h
  obtain ⟨l, rfl, hl, q⟩ := h
  exact call_len pins s σ H _ us Q I r ⟨_, _, rfl, ⟨by rw [S_len]; exact hl, rfl⟩, by rw [S_len]; exact q⟩
theorem call_lenQ : CallR X (.builtin "len") (rLenQ X.K) := call_len_seq
theorem flat_arr (a : Array Nat) : ∀ (k : Nat) (acc : List Nat), (List.replicate k a).foldl (· ++ ·) acc.toArray = (acc ++ (List.replicate k a.toList).flatten).toArray
  | 0, acc => by simp
  | k + 1, acc => by
    rw [List.replicate_succ, List.foldl_cons]
    have e : acc.toArray ++ a = (acc ++ a.toList).toArray := by simp
    rw [e, flat_arr a k, List.replicate_succ]
    simp [List.append_assoc]
theorem op_repS : OpR X (binaryOp .Mult) rRepS := by
  intro pins s σ H x y v u Q I rx ry h
  obtain ⟨l, k, rfl, rfl, h0, h1, hz, q⟩ := h
  obtain ⟨t, rfl⟩ := rx
  obtain ⟨t2, rfl⟩ := ry
  have hs : sizeLine = 16777216 := sizeLine_eq
  have eL : (S l).length = l.length := S_len l
  have hlen : l.length ≤ 16777216 ∨ k < 1 := by
    by_cases hk : k < 1
    · exact .inr hk
    · left
      have : 1 ≤ k.toNat := by omega
      have := Nat.mul_le_mul_left l.length this
      omega
  refine PySem.P.mul_str (by
      have h2 : ¬ k ≥ 2 ^ 63 := by omega
      have h3 : ¬ k < -(2 ^ 63 : Int) := by omega
      rw [decide_eq_false h3, decide_eq_false h2]; rfl) (fun hk hx => ?_) (fun hk hx => ?_) ?_
  · rw [eL]
    have hl2 : l.length ≤ 16777216 := by omega
    have hk1 : 1 ≤ k := by omega
    have hm : (l.length : Int) * k ≤ 16777216 := by
      have e1 : ((l.length * k.toNat : Nat) : Int) = (l.length : Int) * k := by
        rw [Int.natCast_mul, Int.toNat_of_nonneg h0]
      have : ((l.length * k.toNat : Nat) : Int) ≤ 16777216 := by omega
      omega
    have h4 : (l.length : Int) ≤ (2 ^ 63 - 1) / k := by
      rw [Int.le_ediv_iff_mul_le (by omega)]
      omega
    omega
  · rw [eL]
    have : l.length * k.toNat ≤ 16777216 := by omega
    exact PyProof.Rows.short24 (by omega)
  · by_cases hk : k < 1
    · rw [if_pos hk]
      have ek : k.toNat = 0 := by omega
      rw [ek] at q
      exact ⟨by decide, ⟨.str (S []), H, I.tok _, ⟨_, rfl⟩, q⟩⟩
    · rw [if_neg hk]
      by_cases hx : (k == 1 || (S l).length == 0) = true
      · rw [if_pos hx]
        have e : (List.replicate k.toNat l).flatten = l := by
          rw [eL] at hx
          rcases (Bool.or_eq_true _ _).mp hx with h5 | h5
          · have : k = 1 := by simpa using h5
            subst this
            simp
          · have : l = [] := by
              have := by simpa using h5
              exact this
            subst this
            simp
        rw [e] at q
        exact ⟨.str (S l), H, I, ⟨_, rfl⟩, q⟩
      · rw [if_neg hx]
        have e : (⟨(List.replicate k.toNat (S l).cps).foldl (· ++ ·) #[]⟩ : Str) = S (List.replicate k.toNat l).flatten := by
          have := flat_arr (S l).cps k.toNat []
          rw [S_cps] at this
          unfold S at this ⊢
          simp only [List.nil_append] at this
          rw [← this]
        rw [e]
        refine ⟨?_, ⟨.str (S (List.replicate k.toNat l).flatten), H, I.tok _, ⟨_, rfl⟩, q⟩⟩
        rw [S_len, List.length_flatten, List.map_replicate, List.sum_replicate_nat]
        rw [Nat.mul_comm]
        exact hz
theorem op_repS' : OpR X (binaryOp .Mult) rRepS := op_repS
theorem mt_joinS : MtR X "str.join" (rJoinS X.K) := by
  intro pins s σ H x xs v us Q I rx rs h
  obtain ⟨a, p, ys, rfl, rfl, hp, hz, h⟩ := h
  have e1 : ys.map (fun l => V.str (S l)) = (ys.map SX.S).map V.str := by
    rw [List.map_map]; rfl
  have e2 : S (TL.joinL a ys) = Txt.join (SX.S a) (ys.map SX.S) := (SX.join_S a ys).symm
  rw [e1] at hp
  rw [e2] at h
  refine mt_join pins s σ H _ _ v us Q I rx rs ⟨SX.S a, p, ys.map SX.S, rfl, rfl, hp, ?_, h⟩
  rw [SX.lens, List.length_map, SX.S_len]
  exact hz
/-- min(xs), xs a list of texts -/
def rMinS (K : PySem.W.Frag) : List V → Hp → VK → Prop := fun vs H Q => ∃ (a : Addr) (ls : List (List Nat)), vs = [.ref a] ∧ SqL K H a (ls.map fun l => V.str (S l)) ∧ ls ≠ [] ∧
  ∀ m ∈ ls, (∀ y ∈ ls, ¬ y < m) → Q (.str (S m)) H
theorem dp_strs {K : PySem.W.Frag} {H : Hp} : ∀ ls : List (List Nat), DpAll K H (ls.map fun l => V.str (S l)) (ls.map fun l => PyData.str (S l))
  | [] => .nil
  | l :: r => .cons (.str _) (dp_strs r)
theorem minD_strs : ∀ (r : List (List Nat)) (m : List Nat), ∃ z, (z = m ∨ z ∈ r) ∧ (∀ y, y = m ∨ y ∈ r → ¬ y < z) ∧ (r.map fun l => PyData.str (S l)).foldl (fun a y => if PySem.W.dataLt y a then y else a) (.str (S m)) = .str (S z)
  | [], m => ⟨m, .inl rfl, (fun y hy => by
      rcases hy with rfl | hy
      · exact List.lt_irrefl _
      · cases hy), rfl⟩
  | y :: r, m => by
    rw [List.map_cons, List.foldl_cons, PySem.W.dataLt_str, S_cps, S_cps]
    by_cases h : y < m
    · rw [if_pos (decide_eq_true h)]
      obtain ⟨z, h1, h2, h3⟩ := minD_strs r y
      refine ⟨z, ?_, fun x hx => ?_, h3⟩
      · rcases h1 with h1 | h1
        · exact .inr (by rw [h1]; exact List.mem_cons_self ..)
        · exact .inr (List.mem_cons_of_mem _ h1)
      · rcases hx with rfl | hx
        · intro hlt
          exact h2 y (.inl rfl) (List.lt_trans h hlt)
        · rcases List.mem_cons.mp hx with rfl | hx
          · exact h2 _ (.inl rfl)
          · exact h2 _ (.inr hx)
    · rw [if_neg (by rw [decide_eq_false h]; decide)]
      obtain ⟨z, h1, h2, h3⟩ := minD_strs r m
      refine ⟨z, ?_, fun x hx => ?_, h3⟩
      · rcases h1 with h1 | h1
        · exact .inl h1
        · exact .inr (List.mem_cons_of_mem _ h1)
      · rcases hx with rfl | hx
        · exact h2 _ (.inl rfl)
        · rcases List.mem_cons.mp hx with rfl | hx
          · intro hlt
            have h4 := h2 m (.inl rfl)
            -- x < z, not m > x.. : z ≤ m ≤ x
            have h5 : z ≤ m := List.not_lt.mp h4
            have h6 : m ≤ x := List.not_lt.mp h
            exact absurd hlt (List.not_lt.mpr (List.le_trans h5 h6))
          · exact h2 _ (.inr hx)
theorem cr_minS (hc : X.calm = true) (hu : X.A.units + 64 < cLine) : CallR X (.builtin "min") (rMinS X.K) := by
  intro pins s σ H vs us Q I r h
  obtain ⟨a, ls, rfl, hs, hne, q⟩ := h
  obtain ⟨its, rv, hl, _⟩ := I.list hs
  rw [Vals.ref1 r]
  cases ls with
  | nil => exact absurd rfl hne
  | cons m r =>
    obtain ⟨as, hr⟩ := Dp.readsAll I _ _ _ (dp_strs (K := X.K) (H := H) (m :: r)) rv
    obtain ⟨z, h1, h2, h3⟩ := minD_strs r m
    have hd : ∀ ys : List (List Nat), PyData.depthAll (ys.map fun l => PyData.str (S l)) ≤ 1 := by
      intro ys
      induction ys with
      | nil => exact Nat.zero_le _
      | cons y ys ih => exact Nat.max_le.mpr ⟨by show PyData.depth (.str (S y)) ≤ 1; simp [PyData.depth], ih⟩
    refine PySem.W.min_list_data (I.ok.hd hc) (vs := its.toArray) hl.isList (by rw [List.toList_toArray]; exact hr) ?_ ?_ fun i v h' tk bs hv hb k => ?_
    · constructor
      · intro x hx y hy
        have hx' : x ∈ (m :: r).map fun l => PyData.str (S l) := hx
        have hy' : y ∈ (m :: r).map fun l => PyData.str (S l) := hy
        obtain ⟨p, _, rfl⟩ := List.mem_map.mp hx'
        obtain ⟨p2, _, rfl⟩ := List.mem_map.mp hy'
        rfl
      · intro x hx e
        have hx' : x ∈ (m :: r).map fun l => PyData.str (S l) := hx
        obtain ⟨p, _, rfl⟩ := List.mem_map.mp hx'
        cases e
    · have h9 : PyData.depthAll ((fun l => PyData.str (S l)) m :: List.map (fun l => PyData.str (S l)) r) ≤ 1 := hd (m :: r)
      omega
    · have e : PySem.W.minD (.str (S m)) (r.map fun l => PyData.str (S l)) = .str (S z) := h3
      rw [e] at hb
      cases hb
      refine ⟨.str (S z), H, I.kept k, ⟨_, rfl⟩, q z ?_ ?_⟩
      · rcases h1 with h1 | h1
        · rw [h1]; exact List.mem_cons_self ..
        · exact List.mem_cons_of_mem _ h1
      · intro y hy
        rcases List.mem_cons.mp hy with rfl | hy
        · exact h2 _ (.inl rfl)
        · exact h2 _ (.inr hy)
/-! ### enumerate(text) -/
def Iten (x : Str) : It :=
  ⟨fun i _ => i < x.cps.size, fun i H v H' => ∃ T c, v = .ref T ∧ H T = none ∧ H' = upd H T (.tup [.int (i : Nat), .str ⟨#[c]⟩]) ∧ x.cps[i]? = some c, fun i _ => x.cps.size ≤ i⟩
theorem turn_enumS {P : Program} {w : World} {K : PySem.W.Frag} {elts : List Expr} {kk : Nat} {tpos : Pos} (e it : Addr) (x : Str) (t : Tok) (ty : String) (hty : ty = "str_ascii_iterator" ∨ ty = "str_iterator") :
    Turn P w K (.Tuple elts kk tpos) (Iten x) [e, it] e (fun i h => (∃ old, IsEnum h e it ((i : Nat) : Int) old) ∧ h.IsStrIter it ty x t i ∧ e ≠ it ∧ i ≤ x.cps.size) where
  mem := by simp
  obj := fun i h st b hb => by
    obtain ⟨⟨old, he⟩, ⟨o, ho, hc, hd⟩, _⟩ := st
    have e' : b = e ∨ b = it := by simpa using hb
    rcases e' with z | z
    · rw [z]; exact ⟨_, he, fun v q => nomatch q⟩
    · rw [z]; exact ⟨o, ho, fun v q => by rw [hd] at q; cases q⟩
  keep := fun i h h' st k => let ⟨⟨old, he⟩, ⟨o, ho, r⟩, hne, hle⟩ := st; ⟨⟨old, k e (by simp) _ he⟩, ⟨o, k it (by simp) o ho, r⟩, hne, hle⟩
  item := by
    intro X hP hw hK hc i pins s σ H E I hf st hg
    subst hP hw hK
    obtain ⟨⟨old, he⟩, hit, hne, hle⟩ := st
    have hi : i < x.cps.size := hg
    have hel : e < s.heap.objs.size := Heap.lt_size he
    have hil : it < s.heap.objs.size := by obtain ⟨_, q, _⟩ := hit; exact Heap.lt_size q
    have D : Draws X.prog X.w X.A.in1 it [it] x.cps.size (fun i v => ∃ c u, x.cps[i]? = some c ∧ v = .str ⟨#[c]⟩ u) (fun i h => h.IsStrIter it ty x t i) := by
      rcases hty with e1 | e1
      · rw [e1]; exact Draws.strAscii (A := X.A.in1) (I.ok.hd hc) it x t
      · rw [e1]; exact Draws.strWide (A := X.A.in1) (I.ok.hd hc) it x t
    refine wpAny_pyNext_enum_itemD D he hit hi hne (by simpa using hne) fun u h' tk hv ho hit' hT hsz hk => ?_
    obtain ⟨c, u0, hc0, rfl⟩ := hv
    refine ⟨_, rfl, wpAny_letOwnedTupleGo_enum (s := { s with heap := h', toks := tk + 1 }) ho fun h'' he' sb => ?_⟩
    have hT2 : h''.get? s.heap.objs.size = some { cls := .type "tuple", data := .seq #[.int i tk, .str ⟨#[c]⟩ u0] } := (sb.2 _ (Nat.ne_of_gt hel)).trans hT
    have new : ObjOk X.prog X.w (upd H s.heap.objs.size (.tup [.int (i : Nat), .str ⟨#[c]⟩])) h'' s.heap.objs.size (.tup [.int (i : Nat), .str ⟨#[c]⟩]) :=
      ⟨by show 2 ≤ sizeLine; decide, [.int i tk, .str ⟨#[c]⟩ u0], .cons ⟨_, rfl⟩ (.cons ⟨_, rfl⟩ .nil), ⟨_, hT2, rfl, _, rfl⟩⟩
    have I1 : Inv X pins σ (upd H s.heap.objs.size (.tup [.int (i : Nat), .str ⟨#[c]⟩])) { s with heap := h'', toks := tk + 1 } :=
      I.turnedNew (ch := [e, it]) (fun b ob hb q => (sb.2 b (fun z => hb (by simp [z]))).trans (hk b ob (fun z => hb (by simp [z])) (fun z => hb (by simp [z])) q)) hf (Nat.le_refl _) new
    have hit2 : h''.IsStrIter it ty x t (i + 1) := by
      obtain ⟨o, ho, r⟩ := hit'
      exact ⟨o, (sb.2 it (Ne.symm hne)).trans ho, r⟩
    refine ⟨.ref s.heap.objs.size, _, I1, rfl, ⟨_, c, rfl, I.hok.fresh (Nat.le_refl _), rfl, hc0⟩, ⟨⟨.str ⟨#[c]⟩ u0, ?_⟩, hit2, hne, hi⟩, fun b hb => ?_⟩
    · have e1 : ((i + 1 : Nat) : Int) = (i : Int) + 1 := by omega
      rw [e1]; exact he'
    · have hb' : b < s.heap.objs.size := by
        have e' : b = e ∨ b = it := by simpa using hb
        rcases e' with z | z
        · rw [z]; exact hel
        · rw [z]; exact hil
      rw [upd_ne (Nat.ne_of_lt hb')]
      exact (hf b hb).1
  done := by
    intro X hP hw hK hc i pins s σ H E I hf st hg
    subst hP hw hK
    obtain ⟨⟨old, he⟩, hit, hne, hle⟩ := st
    have hi : x.cps.size ≤ i := hg
    obtain ⟨f0, f1, f2, f3, f4, f5⟩ := hf it (by simp)
    have D : Draws X.prog X.w X.A.in1 it [it] x.cps.size (fun i v => ∃ c u, x.cps[i]? = some c ∧ v = .str ⟨#[c]⟩ u) (fun i h => h.IsStrIter it ty x t i) := by
      rcases hty with e1 | e1
      · rw [e1]; exact Draws.strAscii (A := X.A.in1) (I.ok.hd hc) it x t
      · rw [e1]; exact Draws.strWide (A := X.A.in1) (I.ok.hd hc) it x t
    have e0 : i = x.cps.size := Nat.le_antisymm hle hi
    subst e0
    exact wpAny_pyNext_enum_endD D he hit fun h' eb => ⟨rfl, I.turned (t' := s.toks) (fun b o hb q => eb b o hb q) f0 f1 f3 f4 f5⟩
  self := fun A i s Q E st h => let ⟨⟨_, he⟩, _⟩ := st; wpAny_pyIter_enum he h
def iEnumS (ta : TA) : TI := fun σ H R => ta σ H fun vs H1 => ∃ l, vs = [.str (S l)] ∧ R (Iten (S l)) H1
theorem pi_enumS {e : Expr} {ta : TA} {p pos tpos : Pos} {elts : List Expr} {kk : Nat} (hg : Gl X "enumerate") (hm : X.mg "enumerate" = none) (ha : PA X [e] ta) (hs : starEach [e] X.env = [(false, eval e X.env)] := by rfl) :
    PI X (.Tuple elts kk tpos) (.Call (.Name "enumerate" p) [e] [] pos) (iEnumS ta) := by
  refine ⟨fun pins s σ H R I h => ?_⟩
  refine Call_ (ld_blt I hg hm boot_enumerate (PyProof.Rows.callWith_type1 (thn (ha.run pos pins s σ H _ I h) fun us s1 ⟨vs, H1, I1, r1, q1⟩ => ?_) hs rfl))
  obtain ⟨l, ex, q⟩ := q1
  subst ex
  cases r1 with
  | cons r rr =>
    cases rr
    obtain ⟨t, rfl⟩ := r
    refine call_enumerate_str fun h' he hit hsz hk => wpAny_pyIter_enum he ?_
    have I2 : Inv X pins σ H1 { s1 with heap := h' } := I1.kept (t' := s1.toks) hk
    have hty : strIterType (S l) = "str_ascii_iterator" ∨ strIterType (S l) = "str_iterator" := by
      unfold strIterType
      split
      · exact .inl rfl
      · exact .inr rfl
    refine ⟨s1.heap.objs.size + 1, [s1.heap.objs.size + 1, s1.heap.objs.size], _, _, H1, rfl, I2, turn_enumS (s1.heap.objs.size + 1) s1.heap.objs.size (S l) t _ hty, ⟨⟨.none, he⟩, hit, Nat.succ_ne_self _, Nat.zero_le _⟩, fun b hb => ?_, q⟩
    have e' : b = s1.heap.objs.size + 1 ∨ b = s1.heap.objs.size := by simpa using hb
    have hle : s1.heap.objs.size ≤ b := by
      rcases e' with z | z
      · rw [z]; exact Nat.le_add_right _ _
      · rw [z]; exact Nat.le_refl _
    exact I1.fpOk hle (I1.hok.fresh hle)
/-- for i, c in enumerate(text) -/
theorem for_enumS {l : List Nat} {g : TG} {tb : TS} {D : Ends} {σ : L2.St} {H : Hp} (Pv : Nat → L2.St → Hp → Prop) (h0 : Pv 0 σ H)
    (hs : ∀ i c σ H T, l[i]? = some c → Pv i σ H → H T = none → g (.ref T) σ (upd H T (.tup [.int (i : Nat), .str (S [c])])) fun σ2 H2 => tb { D with nx := Pv (i + 1), ct := Pv (i + 1), bk := D.nx } σ2 H2) (hd : ∀ σ H, Pv l.length σ H → D.nx σ H) :
    ∃ W : Nat → Nat → L2.St → Hp → Prop, (∃ m, W 0 m σ H) ∧ ∀ i m σ H, W i m σ H →
      ((Iten (S l)).stop i H ∧ D.nx σ H) ∨ ((Iten (S l)).go i H ∧ ∃ N : L2.St → Hp → Prop, (∀ σ' H', N σ' H' → ∃ m', m' < m ∧ W (i + 1) m' σ' H') ∧ ∀ x H', (Iten (S l)).yld i H x H' → g x σ H' fun σ2 H2 => tb { D with nx := N, ct := N, bk := D.nx } σ2 H2) := by
  have sz : (S l).cps.size = l.length := S_len l
  have gt : ∀ i : Nat, (S l).cps[i]? = l[i]? := fun i => by
    unfold S
    simp
  refine ⟨fun i m σ H => m = l.length - i ∧ i ≤ l.length ∧ Pv i σ H, ⟨l.length, by simp, Nat.zero_le _, h0⟩, ?_⟩
  rintro i m σ H ⟨rfl, hi, p⟩
  by_cases hlt : i < l.length
  · refine .inr ⟨by show i < (S l).cps.size; omega, Pv (i + 1), fun σ' H' p' => ⟨l.length - (i + 1), by omega, rfl, hlt, p'⟩, fun x H' y => ?_⟩
    obtain ⟨T, c, rfl, hT, rfl, hc⟩ := y
    rw [gt] at hc
    exact hs i c σ H T hc p hT
  · have e : i = l.length := by omega
    subst e
    exact .inl ⟨by show (S l).cps.size ≤ l.length; omega, hd σ H p⟩
end
end Fg

set_option Elab.async false
set_option linter.all false
set_option maxRecDepth 100000
set_option maxHeartbeats 4000000
namespace Fg
open PySem PySem.Spec PyProof.Rows L2

/-! ### heaps -/
abbrev Ex := Evl.Ex
def Kp (d : Addr) (H H' : Hp) : Prop := ∀ b o, b ≠ d → H b = some o → H' b = some o
theorem Kp.refl (d : Addr) (H : Hp) : Kp d H H := fun _ _ _ h => h
theorem Kp.trans {d : Addr} {H H1 H2 : Hp} (a : Kp d H H1) (b : Kp d H1 H2) : Kp d H H2 := fun c o n h => b c o n (a c o n h)
theorem Kp.of {d : Addr} {H H' : Hp} (e : Ex H H') : Kp d H H' := fun b o _ h => e b o h
theorem Kp.upd {d : Addr} {H : Hp} {o : HO} : Kp d H (upd H d o) := fun b u n h => by rw [upd_ne n]; exact h
theorem Kp.l {K : PySem.W.Frag} {d : Addr} {H H' : Hp} (e : Kp d H H') {a : Addr} {xs : List V} (n : a ≠ d) (h : SqL K H a xs) : SqL K H' a xs := by
  rcases h with (h | ⟨o, h⟩) | h
  · exact .inl (.inl (e _ _ n h))
  · exact .inl (.inr ⟨o, e _ _ n h⟩)
  · exact .inr h

/-! ### a def that can be called -/
structure Can (P : Program) (w : World) (K : PySem.W.Frag) (mg : Str → Option Value) (base : Heap) (CX : CXT) (k : Nat) (x : Str) (ps : List Str) (sp : Sp) : Prop where
  ex : ∃ (f : Addr) (fd : FuncData), FnOk P w K mg base CX k f fd ps sp ∧ mg x = some (.ref f) ∧ PySem.W.keepIn K (.ref f) = true ∧ Binds K fd ps []
/-- what the top has written of a def -/
structure Defd (K : PySem.W.Frag) (mg : Str → Option Value) (x : Str) (st : Stmt) (ps : List Str) : Prop where
  ex : ∃ (f : Addr) (fd : FuncData), Fun K x x st f fd ∧ mg x = some (.ref f) ∧ Binds K fd ps []
section
variable {P : Program} {w : World} {K : PySem.W.Frag} {mg : Str → Option Value} {base : Heap}
theorem can0 {x : Str} {st : Stmt} {N ps : List Str} {k : Nat} {sp : Sp} (F : Defd K mg x st ps) (S : FnScope N ps (defScope st)) (len : ∀ vs H Q E, sp vs H Q E → vs.length = ps.length)
    (hbody : ∀ (f : Addr) (cdv : Value) (A : Around) (outer : List Env) (s : Shared) (H : Hp) (vs : List V) (Q : VK) (E : XK), Room k (A.deeper (envOfC x (defScope st) s.heap.objs.size f cdv)) → sp vs H Q E →
      ∃ t, PSs (cxOf L2.CX0 P w K mg base N x (defScope st) f cdv A outer s H E).nox (defBody st) t ∧ t { nx := fun _ H' => Q .non H', rt := Q } (start N vs) H) : Can P w K mg base L2.CX0 (k + 1) x ps sp := by
  obtain ⟨f, fd, F, hm, b⟩ := F.ex
  exact ⟨f, fd, F.ok S len fun cdv A outer s H vs Q E hr h => hbody f cdv A outer s H vs Q E hr h, hm, F.kp, b⟩
theorem canX {x : Str} {st : Stmt} {N ps : List Str} {k : Nat} {sp : Sp} (F : Defd K mg x st ps) (S : FnScope N ps (defScope st)) (len : ∀ vs H Q E, sp vs H Q E → vs.length = ps.length)
    (hbody : ∀ (f : Addr) (cdv : Value) (A : Around) (outer : List Env) (s : Shared) (H : Hp) (vs : List V) (Q : VK) (E : XK), Room k (A.deeper (envOfC x (defScope st) s.heap.objs.size f cdv)) → sp vs H Q E →
      ∃ t, PSs (cxOf (L2.CX P w) P w K mg base N x (defScope st) f cdv A outer s H E) (defBody st) t ∧ t { nx := fun _ H' => Q .non H', rt := Q } (start N vs) H) : Can P w K mg base (L2.CX P w) (k + 1) x ps sp := by
  obtain ⟨f, fd, F, hm, b⟩ := F.ex
  exact ⟨f, fd, F.okX S len fun cdv A outer s H vs Q E hr h => hbody f cdv A outer s H vs Q E hr h, hm, F.kp, b⟩
end
theorem hu64 {k : Nat} {A : Around} (hr : Room k A) : A.units + 64 < cLine := by have := hr.un; omega
section
variable {X : Cx} {k j : Nat} {x : Str} {sp : Sp} {ps : List Str} {p pos : Pos} {e : Expr} {es : List Expr} {t : TA}
theorem pe_can (c : Can X.prog X.w X.K X.mg X.base L2.CX0 k x ps sp) (hr : Room j X.A) (hk : k ≤ j) (hg : Gl X x) (ha : PA X (e :: es) t)
    (hdb : (x == ("__debug__" : Str)) = false := by decide) (he : starEach (e :: es) X.env = (false, eval e X.env) :: starEach es X.env := by rfl) (hpl : (backTo pos (starEach es X.env)).any (·.1) = false := by rfl) :
    PE X (.Call (.Name x p) (e :: es) [] pos) (tCall sp [] L2.E0 t) := by
  obtain ⟨f, fd, F, hm, kp, b⟩ := c.ex
  exact pe_call F (hr.mono hk) hg hm kp b .nil L2.pass0 ha hdb he hpl
/-- a def that may raise, called by one that may -/
theorem pe_canX {E : XK} (c : Can X.prog X.w X.K X.mg X.base (L2.CX X.prog X.w) k x ps sp) (hr : Room j X.A) (hk : k ≤ j) (hg : Gl X x) (hx : Passes (L2.CX X.prog X.w) X E) (ha : PA X (e :: es) t)
    (hdb : (x == ("__debug__" : Str)) = false := by decide) (he : starEach (e :: es) X.env = (false, eval e X.env) :: starEach es X.env := by rfl) (hpl : (backTo pos (starEach es X.env)).any (·.1) = false := by rfl) :
    PE X (.Call (.Name x p) (e :: es) [] pos) (tCall sp [] E t) := by
  obtain ⟨f, fd, F, hm, kp, b⟩ := c.ex
  exact pe_call F (hr.mono hk) hg hm kp b .nil hx ha hdb he hpl
/-- .. called within a try -/
theorem pe_canS {E : L2.St → XK} (c : Can X.prog X.w X.K X.mg X.base (L2.CX X.prog X.w) k x ps sp) (hr : Room j X.A) (hk : k ≤ j) (hg : Gl X x) (hx : ∀ σ, PassesAt (L2.CX X.prog X.w) X σ (E σ)) (ha : PA X (e :: es) t)
    (hdb : (x == ("__debug__" : Str)) = false := by decide) (he : starEach (e :: es) X.env = (false, eval e X.env) :: starEach es X.env := by rfl) (hpl : (backTo pos (starEach es X.env)).any (·.1) = false := by rfl) :
    PE X (.Call (.Name x p) (e :: es) [] pos) (tCallS sp E t) := by
  obtain ⟨f, fd, F, hm, kp, b⟩ := c.ex
  exact pe_callS F (hr.mono hk) hg hm kp b hx ha hdb he hpl
end
theorem pe_strL {X : Cx} {x : Str} {j : Nat} {pos : Pos} (l : List Nat) (h : x = S l) : PE X (.Constant (.str x) j pos) (tC (.str (S l))) := by
  rw [← h]; exact pe_str
theorem Kp.free {d : Addr} {H H' : Hp} (e : Kp d H H') {D : Addr} (hd : H' d ≠ none) (h : H' D = none) : H D = none := by
  cases q : H D with
  | none => rfl
  | some o =>
    have n : D ≠ d := fun z => hd (by rw [← z]; exact h)
    rw [e D o n q] at h
    cases h
theorem Kp.mut {d D : Addr} {H H' : Hp} {o : HO} (e : Kp d H H') (h : H D = none) : Kp d H (L2.upd H' D o) := fun b u n hb => by
  rw [upd_ne (ne_of_none hb h)]
  exact e b u n hb
theorem Kp.new {d D : Addr} {H : Hp} {o : HO} (h : H D = none) : Kp d H (L2.upd H D o) := fun b u _ hb => by
  rw [upd_ne (ne_of_none hb h)]
  exact hb
/-- the built-ins' names stand for the built-ins -/
structure Bi (mg : Str → Option Value) : Prop where
  b_len : mg "len" = none
  b_int : mg "int" = none
  b_str : mg "str" = none
  b_bool : mg "bool" = none
  b_list : mg "list" = none
  b_tuple : mg "tuple" = none
  b_sum : mg "sum" = none
  b_abs : mg "abs" = none
  b_min : mg "min" = none
  b_max : mg "max" = none
  b_sorted : mg "sorted" = none
  b_all : mg "all" = none
  b_any : mg "any" = none
  b_isinstance : mg "isinstance" = none
  b_range : mg "range" = none
  b_enumerate : mg "enumerate" = none
  b_zip : mg "zip" = none
  b_ValueError : mg "ValueError" = none

/-! ### readings, one step each -/
section
variable {σ : L2.St} {H : Hp} {Q : VK} {D : Ends} {ta tb tc te : TE} {t u : TS} {c d : TT} {tl : TA} {i : Nat} {v x y : V} {r : R2} {K : PySem.W.Frag}
theorem r_seq (q : t { D with nx := u D } σ H) : tSeq t u D σ H := q
theorem r_asg {g : TG} (q : te σ H fun x H1 => g x σ H1 D.nx) : tAsg te g D σ H := q
theorem r_gname {Q : L2.St → Hp → Prop} (q : Q (σ.set i (some v)) H) : gName i v σ H Q := q
theorem r_gsub {s : TSet} {Q : L2.St → Hp → Prop} (q : ta σ H fun o H1 => tb σ H1 fun i H2 => s o i v H2 fun H3 => Q σ H3) : gSub ta tb s v σ H Q := q
theorem r_ret (q : te σ H D.rt) : tRet te D σ H := q
theorem r_retN (q : D.rt .non H) : tRetN D σ H := q
theorem r_next (q : D.nx σ H) : tNext D σ H := q
theorem r_drop (q : te σ H fun _ H1 => D.nx σ H1) : tDrop te D σ H := q
theorem r_ifS (q : c σ H fun b H1 => if b = true then t D σ H1 else u D σ H1) : tIfS c t u D σ H := q
theorem r_if (q : c σ H fun b H1 => if b = true then ta σ H1 Q else tb σ H1 Q) : tIf c ta tb σ H Q := q
theorem r_par {j : Nat} (q : tl σ H fun vs H1 => ∃ v w, vs = [v, w] ∧ D.nx ((σ.set i (some v)).set j (some w)) H1) : tPar i j tl D σ H := q
theorem r_pair {P : V → V → Prop} (q : P x y) : ∃ v w, [x, y] = [v, w] ∧ P v w := ⟨x, y, rfl, q⟩
theorem r_test {Q : Bool → Hp → Prop} (q : te σ H fun x H' => ∃ k, x = .bl k ∧ Q k H') : tTest te σ H Q := q
theorem r_tB {Q : Bool → Hp → Prop} (q : te σ H fun x H' => ∃ k, x = .bl k ∧ Q k H') : tB te σ H Q := q
theorem r_not {Q : Bool → Hp → Prop} (q : c σ H fun b H1 => Q (!b) H1) : tNot c σ H Q := q
theorem r_and {Q : Bool → Hp → Prop} (q : c σ H fun b H1 => if b = true then d σ H1 Q else Q false H1) : tAnd c d σ H Q := q
theorem r_or {Q : Bool → Hp → Prop} (q : c σ H fun b H1 => if b = true then Q true H1 else d σ H1 Q) : tOr c d σ H Q := q
theorem r_andV (q : ta σ H fun x H1 => ∃ c, x = .bl c ∧ if c = true then tb σ H1 Q else Q (.bl false) H1) : tAndV ta tb σ H Q := q
theorem r_orV (q : ta σ H fun x H1 => ∃ c, x = .bl c ∧ if c = true then Q (.bl true) H1 else tb σ H1 Q) : tOrV ta tb σ H Q := q
theorem r_notV (q : ta σ H fun x H1 => ∃ c, x = .bl c ∧ Q (.bl (!c)) H1) : tNotV ta σ H Q := q
theorem r_nil {Q : List V → Hp → Prop} (q : Q [] H) : tNil σ H Q := q
theorem r_cons {Q : List V → Hp → Prop} (q : ta σ H fun x H1 => tl σ H1 fun xs H2 => Q (x :: xs) H2) : tCons ta tl σ H Q := q
theorem r_call {sp : Sp} {E : XK} (q : tl σ H fun vs H1 => sp (vs ++ []) H1 Q E) : tCall sp [] E tl σ H Q := q
theorem r_callS {sp : Sp} {E : L2.St → XK} (q : tl σ H fun vs H1 => sp vs H1 Q (E σ)) : tCallS sp E tl σ H Q := q
theorem r_cb {r : List V → Hp → VK → Prop} (q : tl σ H fun vs H1 => r vs H1 Q) : tCB r tl σ H Q := q
theorem r_then {k : V → Hp → VK → Prop} (q : ta σ H fun x H1 => k x H1 Q) : tThen ta k σ H Q := q
theorem r_tup (q : tl σ H fun xs H1 => xs.length ≤ sizeLine ∧ ∀ p, H1 p = none → Q (.ref p) (upd H1 p (.tup xs))) : tTup tl σ H Q := q
theorem r_lst (q : tl σ H fun xs H1 => xs.length ≤ sizeLine ∧ ∀ p, H1 p = none → Q (.ref p) (upd H1 p (.lst xs))) : tLst tl σ H Q := q
theorem r_sl {r : V → Option Int → Option Int → Hp → VK → Prop} {to th : TO} (q : te σ H fun x H1 => to σ H1 fun l H2 => th σ H2 fun u H3 => r x l u H3 Q) : tSl r te to th σ H Q := q
theorem r_nopart {Q : Option Int → Hp → Prop} (q : Q none H) : tNoPart σ H Q := q
theorem r_part {Q : Option Int → Hp → Prop} (q : te σ H fun x H1 => ∃ i, x = .int i ∧ Q (some i) H1) : tPart te σ H Q := q
theorem r_op (q : ta σ H fun x H1 => tb σ H1 fun y H2 => r x y H2 Q) : tOp r ta tb σ H Q := q
theorem r_un {r : V → Hp → VK → Prop} (q : ta σ H fun x H1 => r x H1 Q) : tUn r ta σ H Q := q
theorem r_chain {r' : R2} (q : ta σ H fun x H1 => tb σ H1 fun y H2 => r x y H2 fun z H3 => ∃ k, z = .bl k ∧ (if k = true then tc σ H3 fun w' H4 => r' y w' H4 Q else Q (.bl false) H3)) : tChain r r' ta tb tc σ H Q := q
theorem r_var (h : σ[i]? = some (some v)) (q : Q v H) : tVar i σ H Q := ⟨v, h, q⟩
theorem r_c (q : Q v H) : tC v σ H Q := q
theorem r_yes {Q : Bool → Hp → Prop} (q : Q true H) : tYes σ H Q := q
theorem r_bm {T : String} {r : V → List V → Hp → VK → Prop} {to : TE} (q : to σ H fun x H1 => tyV K T x H1 ∧ tl σ H1 fun xs H2 => r x xs H2 Q) : tBM K T r to tl σ H Q := q
theorem r_bl {b : Bool} {P : Bool → Prop} (q : P b) : ∃ k, V.bl b = V.bl k ∧ P k := ⟨b, rfl, q⟩
theorem r_in {b : Int} {P : Int → Prop} (q : P b) : ∃ k, V.int b = V.int k ∧ P k := ⟨b, rfl, q⟩
theorem r_ty {s : Str} {A : Prop} (q : A) : tyV K "str" (.str s) H ∧ A := ⟨rfl, q⟩
theorem r_I0 {g : Int → Int → V} {i j : Int} (q : Q (g i j) H) : rI0 g (.int i) (.int j) H Q := ⟨i, j, rfl, rfl, q⟩
theorem r_I {C : Int → Int → Prop} {g : Int → Int → V} {i j : Int} (hc : C i j) (q : Q (g i j) H) : rI C g (.int i) (.int j) H Q := ⟨i, j, rfl, rfl, hc, q⟩
theorem r_U {g : Int → V} {i : Int} (q : Q (g i) H) : rU g (.int i) H Q := ⟨i, rfl, q⟩
theorem r_eqI {i j : Int} (q : Q (.bl (decide (i = j))) H) : rEq (.int i) (.int j) H Q := ⟨rfl, by
  rw [show decide (V.int i = V.int j) = decide (i = j) by simp]; exact q⟩
theorem r_neI {i j : Int} (q : Q (.bl (!decide (i = j))) H) : rNe (.int i) (.int j) H Q := ⟨rfl, by
  rw [show decide (V.int i = V.int j) = decide (i = j) by simp]; exact q⟩
theorem r_eqS {i j : List Nat} (q : Q (.bl (decide (i = j))) H) : rEq (.str (S i)) (.str (S j)) H Q := ⟨rfl, by
  rw [show decide (V.str (S i) = V.str (S j)) = decide (i = j) by simp [S_eq]]; exact q⟩
theorem r_neS {i j : List Nat} (q : Q (.bl (!decide (i = j))) H) : rNe (.str (S i)) (.str (S j)) H Q := ⟨rfl, by
  rw [show decide (V.str (S i) = V.str (S j)) = decide (i = j) by simp [S_eq]]; exact q⟩
theorem r_eqB {i j : Bool} (q : Q (.bl (decide (i = j))) H) : rEq (.bl i) (.bl j) H Q := ⟨rfl, by
  rw [show decide (V.bl i = V.bl j) = decide (i = j) by simp]; exact q⟩
theorem r_neB {i j : Bool} (q : Q (.bl (!decide (i = j))) H) : rNe (.bl i) (.bl j) H Q := ⟨rfl, by
  rw [show decide (V.bl i = V.bl j) = decide (i = j) by simp]; exact q⟩
theorem r_catS {i j : List Nat} (h : i.length + j.length ≤ sizeLine) (q : Q (.str (S (i ++ j))) H) : rCatS (.str (S i)) (.str (S j)) H Q := ⟨i, j, rfl, rfl, h, q⟩
theorem r_repS {l : List Nat} {k : Int} (h0 : 0 ≤ k) (h1 : k < 2 ^ 62) (h : l.length * k.toNat ≤ sizeLine) (q : Q (.str (S (List.replicate k.toNat l).flatten)) H) : rRepS (.str (S l)) (.int k) H Q := ⟨l, k, rfl, rfl, h0, h1, h, q⟩
theorem r_slSS {l : List Nat} {lo hi : Option Int} (h : l.length ≤ sizeLine) (q : Q (.str (S (cutL l lo hi))) H) : rSlSS (.str (S l)) lo hi H Q := ⟨l, rfl, h, q⟩
theorem r_ixSS {l : List Nat} {j : Int} {c : Nat} (h : l.length ≤ sizeLine) (h0 : 0 ≤ j) (hc : l[j.toNat]? = some c) (q : Q (.str (S [c])) H) : rIxSS (.str (S l)) (.int j) H Q := ⟨l, j, c, rfl, rfl, h, by
  have e : j = ((j.toNat : Nat) : Int) := by omega
  rw [e]; exact atI_nat hc, q⟩
theorem r_niS {l : List Nat} {c : Nat} (q : Q (.bl (!decide (c ∈ l))) H) : rNiS (.str (S [c])) (.str (S l)) H Q := ⟨c, l, rfl, rfl, q⟩
theorem r_inSS {l : List Nat} {c : Nat} (q : Q (.bl (decide (c ∈ l))) H) : rInSS (.str (S [c])) (.str (S l)) H Q := ⟨c, l, rfl, rfl, q⟩
theorem r_lenS {l : List Nat} (h : l.length ≤ sizeLine) (q : Q (.int l.length) H) : rLenS [.str (S l)] H Q := ⟨l, rfl, h, q⟩
theorem r_lenL {p : Addr} {ys : List V} (h : SqL K H p ys) (q : Q (.int ys.length) H) : rLenQ K [.ref p] H Q := ⟨p, ys, rfl, .inl h, q⟩
theorem r_lenT {p : Addr} {ys : List V} (h : SqT K H p ys) (q : Q (.int ys.length) H) : rLenQ K [.ref p] H Q := ⟨p, ys, rfl, .inr h, q⟩
theorem r_ixL {p : Addr} {xs : List V} {j : Int} (h : SqL K H p xs) (h0 : 0 ≤ j) (hc : xs[j.toNat]? = some v) (q : Q v H) : rIxL K (.ref p) (.int j) H Q := ⟨p, xs, j, v, rfl, rfl, h, by
  have e : j = ((j.toNat : Nat) : Int) := by omega
  rw [e]; exact atI_nat hc, q⟩
theorem r_ixT {p : Addr} {xs : List V} {j : Int} (h : SqT K H p xs) (h0 : 0 ≤ j) (hc : xs[j.toNat]? = some v) (q : Q v H) : rIxT K (.ref p) (.int j) H Q := ⟨p, xs, j, v, rfl, rfl, h, by
  have e : j = ((j.toNat : Nat) : Int) := by omega
  rw [e]; exact atI_nat hc, q⟩
theorem r_setL {p : Addr} {xs : List V} {j : Int} {Q : Hp → Prop} (h : H p = some (.lst xs)) (h0 : 0 ≤ j) (hj : j.toNat < xs.length) (q : Q (upd H p (.lst (xs.set j.toNat v)))) : rSetL (.ref p) (.int j) v H Q := ⟨p, xs, j, j.toNat, rfl, rfl, h, by
  have e : j = ((j.toNat : Nat) : Int) := by omega
  have := Evl.ixN_nat hj
  rw [← e] at this
  exact this, q⟩
theorem r_sum {p : Addr} {ns : List Int} (h : SqL K H p (ns.map V.int)) (q : Q (.int ns.sum) H) : rSum K [.ref p] H Q := ⟨p, ns, rfl, h, q⟩
theorem take_map {α β : Type} {l : List α} {i : Nat} {x : β} {f : α → β} (h : (l.map f)[i]? = some x) : (l.take (i + 1)).map f = (l.take i).map f ++ [x] := by
  rw [List.getElem?_map] at h
  cases e : l[i]? with
  | none => rw [e] at h; cases h
  | some y =>
    rw [e] at h
    have e2 : f y = x := Option.some.inj h
    rw [List.take_add_one, e, List.map_append, ← e2]
    rfl
theorem lt_of_get {α : Type} {l : List α} {i : Nat} {x : α} (h : l[i]? = some x) : i < l.length := (List.getElem?_eq_some_iff.mp h).1
theorem r_join {p : Addr} {a : List Nat} {ys : List (List Nat)} (h : SqL K H p (ys.map fun l => V.str (S l))) (hz : (ys.map (·.length)).sum + ys.length * a.length ≤ 16777216) (q : Q (.str (S (TL.joinL a ys))) H) : rJoinS K (.str (S a)) [.ref p] H Q := ⟨a, p, ys, rfl, rfl, .inl h, hz, q⟩
theorem joinL_nil : ∀ ys : List (List Nat), TL.joinL [] ys = ys.flatten
  | [] => rfl
  | [p] => by simp [TL.joinL]
  | p :: q :: r => by
    show p ++ ([] ++ TL.joinL [] (q :: r)) = _
    rw [joinL_nil (q :: r)]
    rfl
theorem joinL_one (l : List Nat) : TL.joinL [] (l.map fun c => [c]) = l := by
  rw [joinL_nil]
  induction l with
  | nil => rfl
  | cons x r ih => rw [List.map_cons, List.flatten_cons, ih]; rfl
/-- ''.join of signs -/
theorem r_joinC {p : Addr} {l : List Nat} (h : SqL K H p (l.map fun c => V.str (S [c]))) (hz : l.length ≤ 100000) (q : Q (.str (S l)) H) : rJoinS K (.str (S [])) [.ref p] H Q := by
  have e : l.map (fun c => V.str (S [c])) = (l.map fun c => [c]).map fun l => V.str (S l) := by rw [List.map_map]; rfl
  rw [e] at h
  refine r_join h ?_ (by rw [joinL_one]; exact q)
  rw [List.map_map, List.length_map]
  have : (l.map ((fun x => x.length) ∘ fun c => [c])).sum = l.length := by
    clear h e q hz
    induction l with
    | nil => rfl
    | cons x r ih => rw [List.map_cons, List.sum_cons, ih, List.length_cons]; show 1 + r.length = r.length + 1; omega
  rw [this]
  show l.length + l.length * 0 ≤ _
  omega
theorem r_tupL {p : Addr} {xs : List V} (h : SqL K H p xs) (q : ∀ t, H t = none → Q (.ref t) (upd H t (.tup xs))) : kTup K (.ref p) H Q := .inl ⟨p, xs, rfl, h, q⟩
theorem r_tupT {p : Addr} {xs : List V} (h : SqT K H p xs) (q : Q (.ref p) H) : kTup K (.ref p) H Q := .inr ⟨p, xs, rfl, h, q⟩
theorem r_all {p : Addr} {bs : List Bool} (h : SqL K H p (bs.map V.bl)) (q : Q (.bl (bs.all id)) H) : rAll K [.ref p] H Q := ⟨p, bs, rfl, h, q⟩
theorem r_minS {p : Addr} {ls : List (List Nat)} (h : SqL K H p (ls.map fun l => V.str (S l))) (hn : ls ≠ []) (q : ∀ m ∈ ls, (∀ y ∈ ls, ¬ y < m) → Q (.str (S m)) H) : rMinS K [.ref p] H Q := ⟨p, ls, rfl, h, hn, q⟩
theorem ltCps_iff : ∀ a b : List Nat, PySem.Spec.ltCps a b = true ↔ a < b
  | [], [] => by simp [PySem.Spec.ltCps]
  | [], _ :: _ => by simp [PySem.Spec.ltCps]
  | _ :: _, [] => by simp [PySem.Spec.ltCps]
  | a :: r, b :: t => by
    simp only [PySem.Spec.ltCps, Bool.or_eq_true, Bool.and_eq_true, decide_eq_true_eq, beq_iff_eq, List.cons_lt_cons_iff, ltCps_iff r t]
theorem rising_le : ∀ (zs : List Str) (p : Str), PyProof.Rows.risingS p zs = true → ∀ y ∈ zs, ¬ y.cps.toList < p.cps.toList
  | [], _, _, y, hy => by cases hy
  | x :: r, p, h, y, hy => by
    have h' : (!PySem.Spec.ltCps x.cps.toList p.cps.toList && PyProof.Rows.risingS x r) = true := h
    rw [Bool.and_eq_true, Bool.not_eq_true'] at h'
    have hx : ¬ x.cps.toList < p.cps.toList := fun z => by
      have := (ltCps_iff _ _).mpr z
      rw [h'.1] at this
      cases this
    rcases List.mem_cons.mp hy with rfl | hy
    · exact hx
    · have := rising_le r x h'.2 y hy
      exact fun z => absurd z (List.not_lt.mpr (List.le_trans (List.not_lt.mp hx) (List.not_lt.mp this)))
/-- sorted(texts): its first is the least -/
theorem r_sortedS {p : Addr} {ls : List (List Nat)} (h : SqL K H p (ls.map fun l => V.str (S l))) (hl : ls.length < 64) (hn : ls ≠ [])
    (q : ∀ z zs d, z ∈ ls → (∀ y ∈ ls, ¬ y < z) → H d = none → Q (.ref d) (upd H d (.lst (.str (S z) :: zs)))) : rSortedS K [.ref p] H Q := by
  have e : ls.map (fun l => V.str (S l)) = (ls.map S).map V.str := by rw [List.map_map]; rfl
  rw [e] at h
  refine ⟨p, ls.map S, rfl, h, by rw [List.length_map]; exact hl, fun ys d hp hs hd => ?_⟩
  cases ys with
  | nil =>
    have := hp.length_eq
    rw [List.length_map] at this
    exact absurd (List.length_eq_zero_iff.mp this.symm) hn
  | cons y r =>
    have hy : y ∈ ls.map S := hp.mem_iff.mp (List.mem_cons_self ..)
    obtain ⟨z, hz, rfl⟩ := List.mem_map.mp hy
    refine q z (r.map V.str) d hz (fun x hx => ?_) hd
    have hx2 : S x ∈ S z :: r := hp.mem_iff.mpr (List.mem_map.mpr ⟨x, hx, rfl⟩)
    rcases List.mem_cons.mp hx2 with e | hx3
    · rw [S_inj e]; exact List.lt_irrefl _
    · have := rising_le r (S z) hs (S x) hx3
      rwa [S_cps, S_cps] at this
theorem kb_int_int : kitB "int" "int" = some true := by decide +kernel
theorem kb_int_bool : kitB "int" "bool" = some false := by decide +kernel
theorem kb_int_str : kitB "int" "str" = some false := by decide +kernel
theorem kb_int_list : kitB "int" "list" = some false := by decide +kernel
theorem kb_int_tuple : kitB "int" "tuple" = some false := by decide +kernel
theorem kb_bool_int : kitB "bool" "int" = some true := by decide +kernel
theorem kb_bool_bool : kitB "bool" "bool" = some true := by decide +kernel
theorem kb_bool_str : kitB "bool" "str" = some false := by decide +kernel
theorem kb_bool_list : kitB "bool" "list" = some false := by decide +kernel
theorem kb_bool_tuple : kitB "bool" "tuple" = some false := by decide +kernel
theorem kb_str_int : kitB "str" "int" = some false := by decide +kernel
theorem kb_str_bool : kitB "str" "bool" = some false := by decide +kernel
theorem kb_str_str : kitB "str" "str" = some true := by decide +kernel
theorem kb_str_list : kitB "str" "list" = some false := by decide +kernel
theorem kb_str_tuple : kitB "str" "tuple" = some false := by decide +kernel
theorem kb_NoneType_int : kitB "NoneType" "int" = some false := by decide +kernel
theorem kb_NoneType_bool : kitB "NoneType" "bool" = some false := by decide +kernel
theorem kb_NoneType_str : kitB "NoneType" "str" = some false := by decide +kernel
theorem kb_NoneType_list : kitB "NoneType" "list" = some false := by decide +kernel
theorem kb_NoneType_tuple : kitB "NoneType" "tuple" = some false := by decide +kernel
theorem kb_list_int : kitB "list" "int" = some false := by decide +kernel
theorem kb_list_bool : kitB "list" "bool" = some false := by decide +kernel
theorem kb_list_str : kitB "list" "str" = some false := by decide +kernel
theorem kb_list_list : kitB "list" "list" = some true := by decide +kernel
theorem kb_list_tuple : kitB "list" "tuple" = some false := by decide +kernel
theorem kb_tuple_int : kitB "tuple" "int" = some false := by decide +kernel
theorem kb_tuple_bool : kitB "tuple" "bool" = some false := by decide +kernel
theorem kb_tuple_str : kitB "tuple" "str" = some false := by decide +kernel
theorem kb_tuple_list : kitB "tuple" "list" = some false := by decide +kernel
theorem kb_tuple_tuple : kitB "tuple" "tuple" = some true := by decide +kernel
theorem r_isi {x : V} {n m : String} {b : Bool} (ht : TyX K H x (.type m)) (hk : kitB m n = some b) (q : Q (.bl b) H) : rIsi K [x, .ty n] H Q := ⟨x, .ty n, _, _, b, rfl, .ty n, ht, kit_ty hk, q⟩
/-- int(an int), abs(an int) -/
def rInt1 : List V → Hp → VK → Prop := fun xs H Q => ∃ i, xs = [.int i] ∧ Q (.int i) H
def rAbs : List V → Hp → VK → Prop := fun xs H Q => ∃ i, xs = [.int i] ∧ Q (.int (if i < 0 then -i else i)) H
theorem call_intI {X : Cx} : CallR X (.type "int") rInt1 := by
  intro pins s σ H xs us Q I r h
  exact call_int1 pins s σ H xs us Q I r (.inl h)
theorem call_absI {X : Cx} : CallR X (.builtin "abs") rAbs := call_abs
theorem r_int {i : Int} (q : Q (.int i) H) : rInt1 [.int i] H Q := ⟨i, rfl, q⟩
theorem r_abs {i : Int} (q : Q (.int (if i < 0 then -i else i)) H) : rAbs [.int i] H Q := ⟨i, rfl, q⟩
theorem r_cS {l : List Nat} (q : Q (.str (S l)) H) : tC (.str (S l)) σ H Q := q
theorem r_cs {s : Str} (q : Q (.str (S s.cps.toList)) H) : tC (.str s) σ H Q := by
  have e : s = S s.cps.toList := by cases s; simp [S]
  show Q (.str s) H
  rw [e]; exact q
theorem r_cut {Mid : L2.St → Hp → Prop} (h : t { D with nx := Mid } σ H) (k : ∀ σ' H', Mid σ' H' → u D σ' H') : Evl.tCut t u D σ H := ⟨Mid, h, k⟩
theorem r_ite {p : Prop} [Decidable p] {A B : Prop} (h1 : p → A) (h2 : ¬ p → B) : if decide p = true then A else B := by
  by_cases h : p
  · rw [decide_eq_true h]; exact h1 h
  · rw [decide_eq_false h]; exact h2 h
theorem r_iteN {p : Prop} [Decidable p] {A B : Prop} (h1 : ¬ p → A) (h2 : p → B) : if (!decide p) = true then A else B := by
  by_cases h : p
  · rw [decide_eq_true h]; exact h2 h
  · rw [decide_eq_false h]; exact h1 h
theorem r_notNn (q : Q (.bl false) H) : rNotN .non .non H Q := ⟨rfl, q⟩
theorem r_notN_int {i : Int} (q : Q (.bl true) H) : rNotN (.int i) .non H Q := ⟨rfl, q⟩
theorem r_notN_str {i : Str} (q : Q (.bl true) H) : rNotN (.str i) .non H Q := ⟨rfl, q⟩
theorem r_notN_ref {i : Addr} (q : Q (.bl true) H) : rNotN (.ref i) .non H Q := ⟨rfl, q⟩
theorem r_isNn (q : Q (.bl true) H) : rIsN .non .non H Q := ⟨rfl, q⟩
theorem r_isN_int {i : Int} (q : Q (.bl false) H) : rIsN (.int i) .non H Q := ⟨rfl, q⟩
theorem r_isN_str {i : Str} (q : Q (.bl false) H) : rIsN (.str i) .non H Q := ⟨rfl, q⟩
theorem r_isN_ref {i : Addr} (q : Q (.bl false) H) : rIsN (.ref i) .non H Q := ⟨rfl, q⟩
theorem r_iteB {b : Bool} {A B : Prop} (h1 : b = true → A) (h2 : b = false → B) : if b = true then A else B := by
  cases b with
  | true => exact h1 rfl
  | false => exact h2 rfl
theorem r_T {A B : Prop} (h : A) : if true = true then A else B := h
theorem r_F {A B : Prop} (h : B) : if false = true then A else B := h
theorem r_nT {A B : Prop} (h : B) : if (!true) = true then A else B := h
theorem r_nF {A B : Prop} (h : A) : if (!false) = true then A else B := h
theorem r_iteNB {b : Bool} {A B : Prop} (h1 : b = false → A) (h2 : b = true → B) : if (!b) = true then A else B := by
  cases b with
  | true => exact h2 rfl
  | false => exact h1 rfl
end
theorem small {n : Nat} (h : n ≤ 1000000) : n ≤ sizeLine := by rw [sizeLine_eq]; omega
theorem lit (s : Str) : s = S s.cps.toList := by cases s; simp [S]


/-! ### comprehensions and loops -/
section
variable {σ : L2.St} {H H1 : Hp} {Q : VK} {D : Ends} {ta te tl : TE} {tb : TS} {tt : TT} {tA : TA} {j : Nat} {vs : List Nat} {K : PySem.W.Frag} {g : TG}
def LcP (J : It) (g : TG) (tt : TT) (te : TE) (vs : List Nat) (σ : L2.St) (H1 : Hp) (Q : VK) : Prop := ∀ D, H1 D = none → ∃ W : Nat → Nat → Hp → Prop, (∃ m, W 0 m (upd H1 D (.lst []))) ∧ ∀ i m H, W i m H →
      (J.stop i H ∧ Q (.ref D) H) ∨ (J.go i H ∧ ∃ Nx : Hp → Prop, (∀ H', Nx H' → ∃ m', m' < m ∧ W (i + 1) m' H') ∧ ∀ x H', J.yld i H x H' → g x (wipe σ vs) H' fun σ2 H2 => wipe σ2 vs = wipe σ vs ∧ tt σ2 H2 fun b H3 =>
        if b = true then te σ2 H3 fun y H4 => ∃ acc, H4 D = some (.lst acc) ∧ acc.length < sizeLine ∧ Nx (upd H4 D (.lst (acc ++ [y]))) else Nx H3)
def ForP (J : It) (g : TG) (tb : TS) (D : Ends) (σ : L2.St) (H1 : Hp) : Prop := ∃ W : Nat → Nat → L2.St → Hp → Prop, (∃ m, W 0 m σ H1) ∧ ∀ i m σ H, W i m σ H →
      (J.stop i H ∧ D.nx σ H) ∨ (J.go i H ∧ ∃ N : L2.St → Hp → Prop, (∀ σ' H', N σ' H' → ∃ m', m' < m ∧ W (i + 1) m' σ' H') ∧ ∀ x H', J.yld i H x H' → g x σ H' fun σ2 H2 => tb { D with nx := N, ct := N, bk := D.nx } σ2 H2)
theorem r_lcR1 (q : tA σ H fun xs H1 => ∃ n : Int, xs = [.int n] ∧ -(2 ^ 62) ≤ n ∧ n < 2 ^ 62 ∧ LcP (Itr 0 n.toNat) g tt te vs σ H1 Q) : tLc (iRng1 tA) g tt te vs σ H Q := q
theorem r_lcR2 (q : tA σ H fun xs H1 => ∃ i n : Int, xs = [.int i, .int n] ∧ (-(2 ^ 62) ≤ i ∧ i < 2 ^ 62 ∧ -(2 ^ 62) ≤ n ∧ n < 2 ^ 62) ∧ LcP (Itr i (n - i).toNat) g tt te vs σ H1 Q) : tLc (iRng2 tA) g tt te vs σ H Q := q
theorem r_lcL (q : tl σ H fun x H1 => ∃ a, x = .ref a ∧ (∃ xs, SqL K H1 a xs) ∧ LcP (Itl K a) g tt te vs σ H1 Q) : tLc (iList K tl) g tt te vs σ H Q := q
theorem r_lcT (q : tl σ H fun x H1 => ∃ a, x = .ref a ∧ (∃ xs, SqT K H1 a xs) ∧ LcP (Itt K a) g tt te vs σ H1 Q) : tLc (iTup K tl) g tt te vs σ H Q := q
theorem r_forR1 (q : tA σ H fun xs H1 => ∃ n : Int, xs = [.int n] ∧ -(2 ^ 62) ≤ n ∧ n < 2 ^ 62 ∧ ForP (Itr 0 n.toNat) g tb D σ H1) : tFor (iRng1 tA) g tb D σ H := q
theorem r_forR2 (q : tA σ H fun xs H1 => ∃ i n : Int, xs = [.int i, .int n] ∧ (-(2 ^ 62) ≤ i ∧ i < 2 ^ 62 ∧ -(2 ^ 62) ≤ n ∧ n < 2 ^ 62) ∧ ForP (Itr i (n - i).toNat) g tb D σ H1) : tFor (iRng2 tA) g tb D σ H := q
theorem r_forL (q : tl σ H fun x H1 => ∃ a, x = .ref a ∧ (∃ xs, SqL K H1 a xs) ∧ ForP (Itl K a) g tb D σ H1) : tFor (iList K tl) g tb D σ H := q
theorem r_forT (q : tl σ H fun x H1 => ∃ a, x = .ref a ∧ (∃ xs, SqT K H1 a xs) ∧ ForP (Itt K a) g tb D σ H1) : tFor (iTup K tl) g tb D σ H := q
theorem r_forS (q : tl σ H fun v H1 => ∃ x, v = .str x ∧ ForP (Its x) g tb D σ H1) : tFor (iStr tl) g tb D σ H := q
theorem r_forE (q : tA σ H fun xs H1 => ∃ l, xs = [.str (S l)] ∧ ForP (Iten (S l)) g tb D σ H1) : tFor (iEnumS tA) g tb D σ H := q
theorem r_rng1 {n : Int} {P : Int → Prop} (h : -1000000 ≤ n ∧ n ≤ 1000000) (q : P n) : ∃ m : Int, [V.int n] = [V.int m] ∧ -(2 ^ 62) ≤ m ∧ m < 2 ^ 62 ∧ P m := ⟨n, rfl, by omega, by omega, q⟩
theorem r_rng2 {i n : Int} {P : Int → Int → Prop} (h : -1000000 ≤ i ∧ i ≤ 1000000 ∧ -1000000 ≤ n ∧ n ≤ 1000000) (q : P i n) : ∃ k m : Int, [V.int i, V.int n] = [V.int k, V.int m] ∧ (-(2 ^ 62) ≤ k ∧ k < 2 ^ 62 ∧ -(2 ^ 62) ≤ m ∧ m < 2 ^ 62) ∧ P k m := ⟨i, n, rfl, ⟨by omega, by omega, by omega, by omega⟩, q⟩
theorem r_refL {a : Addr} {xs : List V} {P : Addr → Prop} (h : SqL K H a xs) (q : P a) : ∃ b, V.ref a = V.ref b ∧ (∃ xs, SqL K H b xs) ∧ P b := ⟨a, rfl, ⟨xs, h⟩, q⟩
theorem r_refT {a : Addr} {xs : List V} {P : Addr → Prop} (h : SqT K H a xs) (q : P a) : ∃ b, V.ref a = V.ref b ∧ (∃ xs, SqT K H b xs) ∧ P b := ⟨a, rfl, ⟨xs, h⟩, q⟩
theorem r_strE {l : List Nat} {P : List Nat → Prop} (q : P l) : ∃ m, [V.str (S l)] = [V.str (S m)] ∧ P m := ⟨l, rfl, q⟩

/-- behind i turns of a comprehension: acc made, the list at D -/
def LcI (J : Addr → Nat → List V → Hp → Prop) (D : Addr) (i : Nat) (H2 : Hp) : Prop := ∃ acc, H2 D = some (.lst acc) ∧ acc.length ≤ i ∧ J D i acc H2
theorem lc_end {J : Addr → Nat → List V → Hp → Prop} {D : Addr} {i : Nat} {acc : List V} {y : V} {H4 : Hp} (hi : i < 100000) (ha : acc.length ≤ i) (h : H4 D = some (.lst acc)) (k : J D (i + 1) (acc ++ [y]) (upd H4 D (.lst (acc ++ [y])))) :
    ∃ acc, H4 D = some (.lst acc) ∧ acc.length < sizeLine ∧ LcI J D (i + 1) (upd H4 D (.lst (acc ++ [y]))) :=
  ⟨acc, h, by rw [sizeLine_eq]; omega, acc ++ [y], upd_same, by rw [List.length_append, List.length_singleton]; omega, k⟩
theorem lc_skip {J : Addr → Nat → List V → Hp → Prop} {D : Addr} {i : Nat} {acc : List V} {H4 : Hp} (ha : acc.length ≤ i) (h : H4 D = some (.lst acc)) (k : J D (i + 1) acc H4) : LcI J D (i + 1) H4 := ⟨acc, h, by omega, k⟩
theorem lcR {lo : Int} {n : Nat} (J : Addr → Nat → List V → Hp → Prop) (hw : ∀ x, wipe ((wipe σ vs).set j (some x)) vs = wipe σ vs)
    (h0 : ∀ D, H1 D = none → J D 0 [] (upd H1 D (.lst [])))
    (hs : ∀ D i H2 acc, H1 D = none → i < n → H2 D = some (.lst acc) → acc.length ≤ i → J D i acc H2 → tt ((wipe σ vs).set j (some (.int (lo + i)))) H2 fun b H3 =>
      if b = true then te ((wipe σ vs).set j (some (.int (lo + i)))) H3 fun y H4 => ∃ acc, H4 D = some (.lst acc) ∧ acc.length < sizeLine ∧ LcI J D (i + 1) (upd H4 D (.lst (acc ++ [y]))) else LcI J D (i + 1) H3)
    (hd : ∀ D H2 acc, H1 D = none → H2 D = some (.lst acc) → J D n acc H2 → Q (.ref D) H2) : LcP (Itr lo n) (gName j) tt te vs σ H1 Q := fun D hD =>
  lc_range (LcI J D) ⟨[], upd_same, Nat.le_refl _, h0 D hD⟩
    (fun i H2 hi ⟨acc, h1, h2, h3⟩ => ⟨hw _, hs D i H2 acc hD hi h1 h2 h3⟩) (fun H2 ⟨acc, h1, h2, h3⟩ => hd D H2 acc hD h1 h3)
theorem lcL {a : Addr} {xs : List V} (J : Addr → Nat → List V → Hp → Prop) (hw : ∀ x, wipe ((wipe σ vs).set j (some x)) vs = wipe σ vs)
    (h0 : ∀ D, H1 D = none → J D 0 [] (upd H1 D (.lst []))) (hl : ∀ D i H2 acc, H1 D = none → J D i acc H2 → SqL K H2 a xs)
    (hs : ∀ D i x H2 acc, H1 D = none → xs[i]? = some x → H2 D = some (.lst acc) → acc.length ≤ i → J D i acc H2 → tt ((wipe σ vs).set j (some x)) H2 fun b H3 =>
      if b = true then te ((wipe σ vs).set j (some x)) H3 fun y H4 => ∃ acc, H4 D = some (.lst acc) ∧ acc.length < sizeLine ∧ LcI J D (i + 1) (upd H4 D (.lst (acc ++ [y]))) else LcI J D (i + 1) H3)
    (hd : ∀ D H2 acc, H1 D = none → H2 D = some (.lst acc) → J D xs.length acc H2 → Q (.ref D) H2) : LcP (Itl K a) (gName j) tt te vs σ H1 Q := fun D hD =>
  lc_list (xs := xs) (LcI J D) ⟨[], upd_same, Nat.le_refl _, h0 D hD⟩ (fun i H2 _ ⟨acc, _, _, h3⟩ => hl D i H2 acc hD h3)
    (fun i x H2 hi ⟨acc, h1, h2, h3⟩ => ⟨hw _, hs D i x H2 acc hD hi h1 h2 h3⟩) (fun H2 ⟨acc, h1, h2, h3⟩ => hd D H2 acc hD h1 h3)
theorem lcT {a : Addr} {xs : List V} (J : Addr → Nat → List V → Hp → Prop) (hw : ∀ x, wipe ((wipe σ vs).set j (some x)) vs = wipe σ vs)
    (h0 : ∀ D, H1 D = none → J D 0 [] (upd H1 D (.lst []))) (hl : ∀ D i H2 acc, H1 D = none → J D i acc H2 → SqT K H2 a xs)
    (hs : ∀ D i x H2 acc, H1 D = none → xs[i]? = some x → H2 D = some (.lst acc) → acc.length ≤ i → J D i acc H2 → tt ((wipe σ vs).set j (some x)) H2 fun b H3 =>
      if b = true then te ((wipe σ vs).set j (some x)) H3 fun y H4 => ∃ acc, H4 D = some (.lst acc) ∧ acc.length < sizeLine ∧ LcI J D (i + 1) (upd H4 D (.lst (acc ++ [y]))) else LcI J D (i + 1) H3)
    (hd : ∀ D H2 acc, H1 D = none → H2 D = some (.lst acc) → J D xs.length acc H2 → Q (.ref D) H2) : LcP (Itt K a) (gName j) tt te vs σ H1 Q := fun D hD =>
  lc_tup (xs := xs) (LcI J D) ⟨[], upd_same, Nat.le_refl _, h0 D hD⟩ (fun i H2 _ ⟨acc, _, _, h3⟩ => hl D i H2 acc hD h3)
    (fun i x H2 hi ⟨acc, h1, h2, h3⟩ => ⟨hw _, hs D i x H2 acc hD hi h1 h2 h3⟩) (fun H2 ⟨acc, h1, h2, h3⟩ => hd D H2 acc hD h1 h3)
/-- loops, by what holds behind i turns -/
theorem forR {lo : Int} {n : Nat} (J : Nat → L2.St → Hp → Prop) (h0 : J 0 σ H1)
    (hs : ∀ i σ H, i < n → J i σ H → g (.int (lo + i)) σ H fun σ2 H2 => tb { D with nx := J (i + 1), ct := J (i + 1), bk := D.nx } σ2 H2) (hd : ∀ σ H, J n σ H → D.nx σ H) : ForP (Itr lo n) g tb D σ H1 := for_range J h0 hs hd
theorem forL {a : Addr} {xs : List V} (J : Nat → L2.St → Hp → Prop) (h0 : J 0 σ H1) (hl : ∀ i σ H, i ≤ xs.length → J i σ H → SqL K H a xs)
    (hs : ∀ i x σ H, xs[i]? = some x → J i σ H → g x σ H fun σ2 H2 => tb { D with nx := J (i + 1), ct := J (i + 1), bk := D.nx } σ2 H2) (hd : ∀ σ H, J xs.length σ H → D.nx σ H) : ForP (Itl K a) g tb D σ H1 := for_list J h0 hl hs hd
theorem forT {a : Addr} {xs : List V} (J : Nat → L2.St → Hp → Prop) (h0 : J 0 σ H1) (hl : ∀ i σ H, i ≤ xs.length → J i σ H → SqT K H a xs)
    (hs : ∀ i x σ H, xs[i]? = some x → J i σ H → g x σ H fun σ2 H2 => tb { D with nx := J (i + 1), ct := J (i + 1), bk := D.nx } σ2 H2) (hd : ∀ σ H, J xs.length σ H → D.nx σ H) : ForP (Itt K a) g tb D σ H1 := for_tup J h0 hl hs hd
theorem forE {l : List Nat} (J : Nat → L2.St → Hp → Prop) (h0 : J 0 σ H1)
    (hs : ∀ i c σ H T, l[i]? = some c → J i σ H → H T = none → g (.ref T) σ (upd H T (.tup [.int (i : Nat), .str (S [c])])) fun σ2 H2 => tb { D with nx := J (i + 1), ct := J (i + 1), bk := D.nx } σ2 H2) (hd : ∀ σ H, J l.length σ H → D.nx σ H) : ForP (Iten (S l)) g tb D σ H1 := for_enumS J h0 hs hd
end
end Fg

set_option Elab.async false
set_option linter.all false
set_option maxRecDepth 100000
set_option maxHeartbeats 4000000
/-! isinstance of a caught error whose class has its own __init__ (its dict is there) -/
namespace PySem.W
open PySem PySem.Spec PySem.Calls PyProof.Rows
section
variable {prog : Program} {w : World} {A : Around} {E : Value → Shared → Prop} {s : Shared} {K : Frag} {x D : Addr} {ox oi : Obj}
theorem fg_class {Q : Option Value → Shared → Prop} (C : L2.ExcC K D) (X : K.In s.heap) (I : InstAt s.heap x ox D (some oi)) (h : Q (some (.ref D)) { s with toks := s.toks + 1 }) : wpAny (model prog w) A (getAttr? (.ref x) "__class__") Q E s := by
  have hf : findObj K D (some oi) "__class__" = some (.bind (.builtin "getset_descriptor.__get__") (.builtin "object.__class__")) := findObj_data (by obtain ⟨cd, e, _⟩ := any_some C.hd; rw [e]; rfl) C.ha C.hn C.ht
  obtain ⟨hp, g, dr, tk, os⟩ := s
  have ty := I.type (M := model prog w)
  have ge := looks_findIn (M := model prog w) X C.hg
  have ho := looks_findIn (M := model prog w) X C.hk
  have fi := looks_find (M := model prog w) X I hf
  have be : Looks (model prog w) hp (isInstance (.ref x) (.type "BaseException")) true := ty.andThen (looks_subIn X C.hs)
  have ne : (Value.builtin "BaseException.__getattribute__" == Value.builtin "object.__getattribute__") = false := by decide +kernel
  unfold getAttr? getAttrBy? getAttrBy
  refine wpAny_bind (wpAny_mkText (wpAny_bind (wpAny_attempt (wpAny_holding (wpAny_bind (ty.at (wpAny_bind (ge.at ?_))))))))
  show wpAny _ _ (if (onTheHeap (Value.ref D) && (Value.builtin "BaseException.__getattribute__" == Value.builtin "object.__getattribute__")) = true then _ else _) _ _ _
  rw [ne, Bool.and_false, if_neg Bool.false_ne_true]
  unfold getAttrByItsOwn hookBefore
  rw [if_pos (show onTheHeap (Value.ref D) = true from rfl)]
  refine wpAny_bind (ho.at (wpAny_bind (wpAny_attempt (wpAny_holding ?_))))
  unfold callGetattribute
  rw [show (false && onTheHeap (Value.builtin "BaseException.__getattribute__")) = false from rfl, if_neg Bool.false_ne_true]
  unfold boundAndCalled
  rw [PySem.F.excAttr_ValueError.ga.bind (.ref x)]
  refine wpAny_bind (wpAny_pure ?_)
  refine wpAny_call (codeAny_call_builtin PySem.F.excAttr_ValueError.ga.plain PySem.F.entry_bexc_ga (@check_slot (model prog w) _ _ ⟨hp, g, dr, tk + 1, os⟩ "BaseException.__getattribute__" "BaseException" "__getattribute__" (.ref x) [.str "__class__" tk] [] _ (by decide +kernel) (by decide +kernel) be (PySem.F.args_bexc_ga (.ref x) (.str "__class__" tk)) ?_))
  unfold Builtin.«object.__getattribute__»
  refine wpAny_bind (wpAny_of_eq (a := ((Value.ref x : Value), [Value.str "__class__" tk])) (by first | rfl | (simp only [slotArgs]; rfl)) (wpAny_bind (wpAny_pure (wpAny_bind (ty.at (wpAny_bind (fi.at ?_)))))))
  show wpAny _ _ (holding [Value.builtin "object.__class__"] (call (.builtin "getset_descriptor.__get__") [.builtin "object.__class__", .ref x, .ref D]) >>= ret) _ _ _
  refine wpAny_bind (wpAny_holding (wpAny_call (class_get (s := ⟨hp, g, dr, tk + 1, os⟩) (ox := ox) (od := some oi) X I C.hm ?_)))
  refine wpAny_pure ?_
  show wpAny _ _ (handedOut (.ref D)) _ _ _
  rw [handedOut_of (v := .ref D) rfl]
  first
    | exact wpAny_pure (wpAny_pure h)
    | exact wpAny_pure h
    | exact wpAny_pure (wpAny_bind (wpAny_pure (wpAny_pure h)))
theorem fg_kitx (C : L2.ExcC K D) : KitX K (.ref x) (.ref D) (fun h => InstAt h x ox D (some oi)) where
  ty := fun _ _ _ I => I.type
  it := fun _ _ X _ => by
    obtain ⟨cd, hc, _⟩ := any_some C.hd
    unfold clsIn at hc
    split at hc
    · rename_i ho
      intro A' Q' E' s' k q
      unfold isType loadHead
      exact wpAny_bind (wpAny_loadPart (k _ _ (X _ _ ho)) (wpAny_pure q))
    · cases hc
  ne := fun h tp dd its n sl X htp => by
    obtain ⟨cd, hc, _⟩ := any_some C.hd
    refine Bool.eq_false_iff.mpr fun q => ?_
    have e : D = tp := Value.ref.inj (beq_iff_eq.mp q)
    subst e
    unfold clsIn at hc
    split at hc
    · rename_i ho
      have z := (X _ _ ho).symm.trans htp
      cases z
    · cases hc
  ca := fun X I k => fg_class C X I k
end
end PySem.W
namespace Fg
open PySem PySem.Spec PyProof.Rows L2
/-- isinstance(e, c), e the exception that the suite holds at a, of the class cls, its dict d -/
def rIsX (K : PySem.W.Frag) (a : Addr) (cls : Value) (d : Option Addr) : List V → Hp → VK → Prop := fun xs H Q => ∃ (D : Addr) (c : V) (cv : Value) (b : Bool) (dd : Addr) (fs : List (Str × V)), xs = [.ref a, c] ∧ (∀ u, RelV c u → u = cv) ∧ cls = .ref D ∧ ExcC K D ∧ PySem.W.kitOne K (.ref D) cv = some b ∧
  d = some dd ∧ H dd = some (.xd fs) ∧ Q (.bl b) H
theorem call_isX {X : Cx} {a : Addr} {cls : Value} {d : Option Addr} {oe : Obj} {pn : List (Addr × Obj)} (hz : Zc cls d oe) (hf : ∃ vs, oe.data = .fields vs) : CallR (X.suite a ((a, oe) :: pn)) (.builtin "isinstance") (rIsX X.K a cls d) := by
  intro pins s σ H xs us Q I r h
  obtain ⟨D, c, cv, b, dd, fs, rfl, hcv, rfl, C, e, rfl, hdd, q⟩ := h
  cases r with
  | cons rx rr =>
    cases rr with
    | cons rt rr =>
      cases rr
      cases rx
      have ec := hcv _ rt
      subst ec
      obtain ⟨hget, _⟩ := I.pin (a, oe) (List.mem_append.mpr (.inl List.mem_cons_self))
      obtain ⟨vs, hv⟩ := hf
      have hx : ObjOk X.prog X.w H s.heap dd (.xd fs) := I.hok dd _ hdd
      obtain ⟨mA, hns, hr⟩ := hx
      obtain ⟨od, ho, hl⟩ := lookIn_ns hns
      have J : PySem.W.InstAt s.heap a oe D (some od) := ⟨hget, hz.1, by unfold PySem.W.notCls; rw [hv] <;> rfl, by rw [hz.2]; exact ho⟩
      exact PySem.W.kia_one (PySem.W.fg_kitx C) I.kIn J e (fun z => nomatch z) fun tk => ⟨.bl b, H, I.kept (t' := tk) fun _ _ z => z, rfl, q⟩

/-! ### errors with one field -/
def spInit (C : Addr) (fld : Str) : Sp := fun vs H Q _ => ∃ (a : Addr) (v : V), vs = [.ref a, v] ∧ H a = some (exo a C none) ∧ ∀ dx, H dx = none → dx ≠ a → Q .non (upd (upd H dx (exd dx [(fld, v)])) a (exo a C (some dx)))
structure Err (P : Program) (w : World) (K : PySem.W.Frag) (mg : Str → Option Value) (base : Heap) (x : Str) (C : Addr) (fld : Str) : Prop where
  g : mg x = some (.ref C)
  o : OexC K C
  xf : XfC K C
  xc : ExcC K C
  noN : PySem.W.findIn K (.ref C) fld = some none
  ini : ∃ (fI : Addr) (fd : FuncData) (ps : List Str), PySem.W.findIn K (.ref C) "__init__" = some (some (.ref fI)) ∧ PySem.W.typeIn K (.ref fI) = some (.type "function") ∧ FnOk P w K mg base L2.CX0 1 fI fd ps (spInit C fld) ∧ Binds K fd ps []
section
variable {X : Cx} {x : Str} {C : Addr} {fld : Str} {j : Nat} {e : Expr} {es : List Expr} {ta : TA} {p pos : Pos}
theorem pmk_err (E : Err X.prog X.w X.K X.mg X.base x C fld) (hr : Room j X.A) (hj : 2 ≤ j) (hg : Gl X x) (ha : PA X (e :: es) ta)
    (hdb : (x == ("__debug__" : Str)) = false := by decide) (he : starEach (e :: es) X.env = (false, eval e X.env) :: starEach es X.env := by rfl) (hpl : (backTo pos (starEach es X.env)).any (·.1) = false := by rfl) :
    PMk X (.Call (.Name x p) (e :: es) [] pos) (tMkO C (spInit C fld) [] ta) := by
  obtain ⟨fI, fd, ps, iC, tI, F, b⟩ := E.ini
  exact pmk_oex E.o iC tI F (hr.mono hj) b .nil L2.pass0 hg E.g ha hdb he hpl
end
theorem r_mko {σ : L2.St} {H : Hp} {ta : TA} {C : Addr} {fld : Str} {Q : XK} (q : ta σ H fun vs H1 => vs.length ≤ 1000 ∧ ∀ a, H1 a = none → spInit C fld (.ref a :: (vs ++ [])) (upd H1 a (exo a C none))
  (fun v H2 => v = .non ∧ ∃ (d : Addr) (fs : List (Str × V)), H2 a = some (exo a C (some d)) ∧ H2 d = some (exd d fs) ∧ H1 d = none ∧ Q (.ref C) (some d) (upd (del H2 a) d (.xd fs))) (fun _ _ _ => False)) : tMkO C (spInit C fld) [] ta σ H Q := q
/-- what is raised: the error of this class, whose dict is new -/
def Wish (C : Addr) (fld : Str) (v : V) (H : Hp) (E : XK) : Prop := ∀ d H', H d = none → Ex H H' → H' d = some (.xd [(fld, v)]) → E (.ref C) (some d) H'
theorem Wish.ex {C : Addr} {fld : Str} {v : V} {H H1 : Hp} {E : XK} (w : Wish C fld v H E) (e : Ex H H1) : Wish C fld v H1 E := fun d H' hd ex h => w d H' (Evl.fresh_back e hd) (e.trans ex) h
theorem r_mk {H1 : Hp} {C : Addr} {fld : Str} {v : V} {Q : XK} (q : Wish C fld v H1 Q) : [v].length ≤ 1000 ∧ ∀ a, H1 a = none → spInit C fld (.ref a :: ([v] ++ [])) (upd H1 a (exo a C none))
  (fun u H2 => u = .non ∧ ∃ (d : Addr) (fs : List (Str × V)), H2 a = some (exo a C (some d)) ∧ H2 d = some (exd d fs) ∧ H1 d = none ∧ Q (.ref C) (some d) (upd (del H2 a) d (.xd fs))) (fun _ _ _ => False) := by
  refine ⟨by show 1 ≤ 1000; decide, fun a ha => ⟨a, v, rfl, upd_same, fun dx hd ne => ⟨rfl, dx, [(fld, v)], upd_same, ?_, ?_, ?_⟩⟩⟩
  · rw [upd_ne ne, upd_same]
  · rw [upd_ne ne] at hd
    exact hd
  · rw [upd_ne ne] at hd
    refine q dx _ hd (fun b o hb => ?_) upd_same
    have n1 : b ≠ dx := ne_of_none hb hd
    have n2 : b ≠ a := ne_of_none hb ha
    rw [upd_ne n1, del_ne n2, upd_ne n2, upd_ne n1, upd_ne n2]
    exact hb
theorem r_xf {σ : L2.St} {H : Hp} {Q : VK} {a C : Addr} {cls : Value} {d : Option Addr} {fld : Str} {te : TE} (q : te σ H fun x H1 => x = .ref a ∧ cls = .ref C ∧ ∃ (dd : Addr) (fs : List (Str × V)) (v : V), d = some dd ∧ H1 dd = some (.xd fs) ∧ fs.lookup fld = some v ∧ Q v H1) : tXf a cls d C fld te σ H Q := q
theorem op_eqK {X : Cx} {K : PySem.W.Frag} {k : Nat} {A : Around} (hr : Room k A) (e : X.K = K := by rfl) (e2 : X.A.units = A.units := by rfl) : OpR X (compareOp .Eq) (rEqD K) := by
  rw [← e]; exact op_eqD (by rw [e2]; exact hu64 hr)
theorem r_wAs {K : PySem.W.Frag} {c : Value} {i : Nat} {ts : Addr → Value → Option Addr → TS} {Wout : WX} {D : Ends} {cls : Value} {d : Option Addr} {σ : L2.St} {H : Hp} (k : PySem.W.exmOne K cls c = some true)
    (q : ∀ a, H a = none → ts a cls d { nx := fun σ' H' => D.nx (σ'.set i none) H', rt := D.rt, bk := fun σ' H' => D.bk (σ'.set i none) H', ct := fun σ' H' => D.ct (σ'.set i none) H' } (σ.set i (some (.ref a))) H) : WE (wAs K c i ts Wout D) σ cls d H :=
  ⟨true, k, fun _ => q, fun z => nomatch z⟩
/-- a pair unpacked into two names -/
theorem r_gtup2 {K : PySem.W.Frag} {σ : L2.St} {H : Hp} {a : Addr} {i j : Nat} {x y : V} {Q : L2.St → Hp → Prop} (h : SqT K H a [x, y]) (q : Q ((σ.set i (some x)).set j (some y)) H) : gTup K 2 (gCons (gName i) (gCons (gName j) gNil)) (.ref a) σ H Q :=
  ⟨a, [x, y], rfl, h, rfl, x, [y], rfl, y, [], rfl, rfl, q⟩
end Fg

set_option Elab.async false
set_option linter.all false
set_option maxRecDepth 100000
set_option maxHeartbeats 4000000
namespace Fg
open PySem PySem.Spec PyProof.Rows L2
/-! ### what the top has written -/
section
variable {K : PySem.W.Frag} {h : Heap} {mg : Str → Option Value}
theorem defd_mk {x : Str} {st : Stmt} {ps : List Str} {f : Addr} {oc : Value} {od an : Option Addr} {osl : Array (Option Value)} {kV doc pm cdv ct : Value} (X : K.In h) (G : h.Ns mainGlobals mg)
    (a : PySem.W.nsIn K mainGlobals x = some (some (.ref f)))
    (l : K.lookup f = some ⟨oc, od, .func (PySem.W.fnOf x x (defArgs st) (defBody st) (defScope st) .none kV doc pm an cdv ct), osl⟩)
    (c : PySem.W.codeIn K cdv x = true) (k : PySem.W.keepIn K (.ref f) = true)
    (b : ∀ (kV doc pm : Value) (an : Option Addr) (cdv ct : Value) (us : List Value), us.length = ps.length → bindArgs (PySem.W.fnOf x x (defArgs st) (defBody st) (defScope st) .none kV doc pm an cdv ct) ⟨us, []⟩ = pure (ps.zip us)) : Defd K mg x st ps :=
  ⟨f, _, fun_mk l c k, PySem.W.mg_of X G a, (fun_mk l c k).binds b⟩
theorem lawd_mk {x p : Str} {st : Stmt} {f : Addr} {oc : Value} {od an : Option Addr} {osl : Array (Option Value)} {kV doc pm cdv ct : Value} (X : K.In h) (G : h.Ns mainGlobals mg)
    (a : PySem.W.nsIn K mainGlobals x = some (some (.ref f)))
    (l : K.lookup f = some ⟨oc, od, .func (PySem.W.fnOf x x (defArgs st) (defBody st) (defScope st) .none kV doc pm an cdv ct), osl⟩)
    (c : PySem.W.codeIn K cdv x = true) (k : PySem.W.keepIn K (.ref f) = true)
    (b : ∀ (kV doc pm : Value) (an : Option Addr) (cdv ct : Value) (us : List Value), us.length = [p].length → bindArgs (PySem.W.fnOf x x (defArgs st) (defBody st) (defScope st) .none kV doc pm an cdv ct) ⟨us, []⟩ = pure ([p].zip us)) :
    ∃ (f : Addr) (fd : FuncData), (∀ (s : Shared) (u : Value), BindsTo s fd ⟨[u], []⟩ [(p, u)]) ∧ Fun K x x st f fd ∧ mg x = some (.ref f) :=
  ⟨f, _, fun s u => .of_eq (b _ _ _ _ _ _ [u] rfl), fun_mk l c k, PySem.W.mg_of X G a⟩
theorem const_mk {x : Str} {v : Value} {y : V} (X : K.In h) (G : h.Ns mainGlobals mg) (a : PySem.W.nsIn K mainGlobals x = some (some v)) (e : RelV y v) : ∃ u, mg x = some u ∧ RelV y u := ⟨v, PySem.W.mg_of X G a, e⟩
theorem bi_mk (X : K.In h) (G : h.Ns mainGlobals mg) (z0 : PySem.W.nsIn K mainGlobals "len" = some none) (z1 : PySem.W.nsIn K mainGlobals "int" = some none) (z2 : PySem.W.nsIn K mainGlobals "str" = some none) (z3 : PySem.W.nsIn K mainGlobals "bool" = some none) (z4 : PySem.W.nsIn K mainGlobals "list" = some none) (z5 : PySem.W.nsIn K mainGlobals "tuple" = some none) (z6 : PySem.W.nsIn K mainGlobals "sum" = some none) (z7 : PySem.W.nsIn K mainGlobals "abs" = some none) (z8 : PySem.W.nsIn K mainGlobals "min" = some none) (z9 : PySem.W.nsIn K mainGlobals "max" = some none) (z10 : PySem.W.nsIn K mainGlobals "sorted" = some none) (z11 : PySem.W.nsIn K mainGlobals "all" = some none) (z12 : PySem.W.nsIn K mainGlobals "any" = some none) (z13 : PySem.W.nsIn K mainGlobals "isinstance" = some none) (z14 : PySem.W.nsIn K mainGlobals "range" = some none) (z15 : PySem.W.nsIn K mainGlobals "enumerate" = some none) (z16 : PySem.W.nsIn K mainGlobals "zip" = some none) (z17 : PySem.W.nsIn K mainGlobals "ValueError" = some none) : Bi mg :=
  ⟨PySem.W.mg_none_of X G z0, PySem.W.mg_none_of X G z1, PySem.W.mg_none_of X G z2, PySem.W.mg_none_of X G z3, PySem.W.mg_none_of X G z4, PySem.W.mg_none_of X G z5, PySem.W.mg_none_of X G z6, PySem.W.mg_none_of X G z7, PySem.W.mg_none_of X G z8, PySem.W.mg_none_of X G z9, PySem.W.mg_none_of X G z10, PySem.W.mg_none_of X G z11, PySem.W.mg_none_of X G z12, PySem.W.mg_none_of X G z13, PySem.W.mg_none_of X G z14, PySem.W.mg_none_of X G z15, PySem.W.mg_none_of X G z16, PySem.W.mg_none_of X G z17⟩
/-- what the written part says of a class of errors with its own __init__ -/
structure ErrC (K : PySem.W.Frag) (x qual fld : Str) (st : Stmt) (ps : List Str) (C : Addr) : Prop where
  ns : PySem.W.nsIn K mainGlobals x = some (some (.ref C))
  o : OexC K C
  xf : XfC K C
  xc : ExcC K C
  noN : PySem.W.findIn K (.ref C) fld = some none
  ini : ∃ (fI : Addr) (fd : FuncData), PySem.W.findIn K (.ref C) "__init__" = some (some (.ref fI)) ∧ PySem.W.typeIn K (.ref fI) = some (.type "function") ∧ Fun K "__init__" qual st fI fd ∧ Binds K fd ps []
theorem err_mk {P : Program} {w : World} {base : Heap} {x qual fld : Str} {st : Stmt} {ps : List Str} {C : Addr} (X : K.In h) (G : h.Ns mainGlobals mg) (e : ErrC K x qual fld st ps C)
    (F : ∀ fI fd, Fun K "__init__" qual st fI fd → FnOk P w K mg base L2.CX0 1 fI fd ps (spInit C fld)) : Err P w K mg base x C fld := by
  obtain ⟨fI, fd, h1, h2, h3, h4⟩ := e.ini
  exact ⟨PySem.W.mg_of X G e.ns, e.o, e.xf, e.xc, e.noN, fI, fd, ps, h1, h2, F fI fd h3, h4⟩
theorem defd_do {R : Prop} (X : K.In h) (G : h.Ns mainGlobals mg) (x : Str) (st : Stmt) (ps : List Str) {f : Addr} {oc : Value} {od an : Option Addr} {osl : Array (Option Value)} {kV doc pm cdv ct : Value}
    (a : PySem.W.nsIn K mainGlobals x = some (some (.ref f)))
    (l : K.lookup f = some ⟨oc, od, .func (PySem.W.fnOf x x (defArgs st) (defBody st) (defScope st) .none kV doc pm an cdv ct), osl⟩)
    (c : PySem.W.codeIn K cdv x = true) (k : PySem.W.keepIn K (.ref f) = true)
    (b : ∀ (kV doc pm : Value) (an : Option Addr) (cdv ct : Value) (us : List Value), us.length = ps.length → bindArgs (PySem.W.fnOf x x (defArgs st) (defBody st) (defScope st) .none kV doc pm an cdv ct) ⟨us, []⟩ = pure (ps.zip us))
    (n : Defd K mg x st ps → R) : R := n (defd_mk X G a l c k b)
theorem lawd_do {R : Prop} (X : K.In h) (G : h.Ns mainGlobals mg) (x : Str) (st : Stmt) (p : Str) {f : Addr} {oc : Value} {od an : Option Addr} {osl : Array (Option Value)} {kV doc pm cdv ct : Value}
    (a : PySem.W.nsIn K mainGlobals x = some (some (.ref f)))
    (l : K.lookup f = some ⟨oc, od, .func (PySem.W.fnOf x x (defArgs st) (defBody st) (defScope st) .none kV doc pm an cdv ct), osl⟩)
    (c : PySem.W.codeIn K cdv x = true) (k : PySem.W.keepIn K (.ref f) = true)
    (b : ∀ (kV doc pm : Value) (an : Option Addr) (cdv ct : Value) (us : List Value), us.length = [p].length → bindArgs (PySem.W.fnOf x x (defArgs st) (defBody st) (defScope st) .none kV doc pm an cdv ct) ⟨us, []⟩ = pure ([p].zip us))
    (n : ∀ (f : Addr) (fd : FuncData), (∀ (s : Shared) (u : Value), BindsTo s fd ⟨[u], []⟩ [(p, u)]) → Fun K x x st f fd → mg x = some (.ref f) → R) : R := by
  obtain ⟨f, fd, h1, h2, h3⟩ := lawd_mk X G a l c k b
  exact n f fd h1 h2 h3
theorem errc_do {R : Prop} (X : K.In h) (x qual fld : Str) (st : Stmt) (ps : List Str) {nm q : Str} {C f N : Addr} {bs bm sub : List Value} {sn : List Str} {ab : Bool} {col : Option Bool} {dd : Option Addr} {k0 k1 k2 k3 k5 : Option Value} {oc : Value} {od an : Option Addr} {osl : Array (Option Value)} {kV doc pm cdv ct : Value}
    (a1 : PySem.W.nsIn K mainGlobals x = some (some (.ref C)))
    (a2 : K.lookup C = some (excClassObj nm q C N bs bm true sn sub ab col dd k0 k1 k2 k3 k5 "ValueError.__new__"))
    (a4 : PySem.W.findIn K (.ref C) "__setattr__" = some (some (.builtin "object.__setattr__")))
    (a5 : PySem.W.subIn K (.ref C) (.type "BaseException") = some true) (a6 : PySem.W.typeIn K (.ref C) = some (.type "type")) (a7 : PySem.W.keepIn K (.ref C) = true)
    (a8 : PySem.W.findIn K (.ref C) "__getattribute__" = some (some (.builtin "BaseException.__getattribute__"))) (a9 : PySem.W.findIn K (.ref C) "__getattr__" = some none)
    (b1 : PySem.W.hasDictIn K C = true) (b2 : PySem.W.findIn K (.ref C) "__class__" = some (some (.builtin "object.__class__")))
    (b3 : PySem.W.specialIn K (.builtin "object.__class__") "__get__" = some (some (.builtin "getset_descriptor.__get__"))) (b4 : PySem.W.takesIn K (.builtin "object.__class__") = some true)
    (b5 : PySem.W.mroIn K C (.type "object") = some true) (b6 : PySem.W.findIn K (.ref C) fld = some none)
    (b7 : PySem.W.findIn K (.ref C) "__init__" = some (some (.ref f))) (b8 : PySem.W.typeIn K (.ref f) = some (.type "function"))
    (b9 : K.lookup f = some ⟨oc, od, .func (PySem.W.fnOf "__init__" qual (defArgs st) (defBody st) (defScope st) .none kV doc pm an cdv ct), osl⟩)
    (c1 : PySem.W.codeIn K cdv qual = true) (c2 : PySem.W.keepIn K (.ref f) = true)
    (b : ∀ (kV doc pm : Value) (an : Option Addr) (cdv ct : Value) (us : List Value), us.length = ps.length → bindArgs (PySem.W.fnOf "__init__" qual (defArgs st) (defBody st) (defScope st) .none kV doc pm an cdv ct) ⟨us, []⟩ = pure (ps.zip us))
    (a3 : PySem.HandSPX.refsVE bm = true) (n : ErrC K x qual fld st ps C → R) : R := by
  refine n ⟨a1, ⟨⟨nm, q, N, bs, bm, sn, sub, ab, col, dd, k0, k1, k2, k3, k5, a2, a3⟩, a4, a5, a6, a7⟩, ⟨a8, a9, a5, b1⟩, ⟨a8, a9, a5, b1, b2, b3, b4, b5⟩, b6, f, _, b7, b8, fun_mk b9 c1 c2, (fun_mk b9 c1 c2).binds b⟩
theorem bi_do {R : Prop} (X : K.In h) (G : h.Ns mainGlobals mg) (z0 : PySem.W.nsIn K mainGlobals "len" = some none) (z1 : PySem.W.nsIn K mainGlobals "int" = some none) (z2 : PySem.W.nsIn K mainGlobals "str" = some none) (z3 : PySem.W.nsIn K mainGlobals "bool" = some none) (z4 : PySem.W.nsIn K mainGlobals "list" = some none) (z5 : PySem.W.nsIn K mainGlobals "tuple" = some none) (z6 : PySem.W.nsIn K mainGlobals "sum" = some none) (z7 : PySem.W.nsIn K mainGlobals "abs" = some none) (z8 : PySem.W.nsIn K mainGlobals "min" = some none) (z9 : PySem.W.nsIn K mainGlobals "max" = some none) (z10 : PySem.W.nsIn K mainGlobals "sorted" = some none) (z11 : PySem.W.nsIn K mainGlobals "all" = some none) (z12 : PySem.W.nsIn K mainGlobals "any" = some none) (z13 : PySem.W.nsIn K mainGlobals "isinstance" = some none) (z14 : PySem.W.nsIn K mainGlobals "range" = some none) (z15 : PySem.W.nsIn K mainGlobals "enumerate" = some none) (z16 : PySem.W.nsIn K mainGlobals "zip" = some none) (z17 : PySem.W.nsIn K mainGlobals "ValueError" = some none) (n : Bi mg → R) : R := n (bi_mk X G z0 z1 z2 z3 z4 z5 z6 z7 z8 z9 z10 z11 z12 z13 z14 z15 z16 z17)
theorem glob_do {R : Prop} (X : K.In h) (G : h.Ns mainGlobals mg) (x : Str) {v : Value} (a : PySem.W.nsIn K mainGlobals x = some (some v)) (n : mg x = some v → R) : R := n (PySem.W.mg_of X G a)
end
theorem exm_mk {K : PySem.W.Frag} {C S : Addr} (h1 : PySem.W.subIn K (.ref S) (.type "BaseException") = some true) (h2 : PySem.W.isClsIn K S = true) (h3 : PySem.W.typeIn K (.ref S) = some (.type "type")) (h4 : PySem.W.subIn K (.ref C) (.ref S) = some true) :
    PySem.W.exmOne K (.ref C) (.ref S) = some true := by
  have e1 : (PySem.W.subIn K (.ref S) (.type "BaseException") == some true) = true := by rw [h1] <;> rfl
  have e2 : ((PySem.W.clsIn K S).isSome && PySem.W.typeIn K (.ref S) == some (.type "type")) = true := by
    have h2' : (PySem.W.clsIn K S).isSome = true := h2
    rw [h2', h3] <;> rfl
  show (if (PySem.W.subIn K (.ref S) (.type "BaseException") == some true) = true then (if ((PySem.W.clsIn K S).isSome && PySem.W.typeIn K (.ref S) == some (.type "type")) = true then PySem.W.subIn K (.ref C) (.ref S) else none) else none) = some true
  rw [if_pos e1, if_pos e2]
  exact h4
theorem r_ost {K : PySem.W.Frag} {σ : L2.St} {H : Hp} {D : Ends} {a C : Addr} {fld : Str} {i j : Nat} {v : V} (hi : σ[i]? = some (some (.ref a))) (hj : σ[j]? = some (some v)) (o : OexC K C) (n : PySem.W.findIn K (.ref C) fld = some none) (h : H a = some (exo a C none))
    (q : ∀ dx, H dx = none → dx ≠ a → D.nx σ (upd (upd H dx (exd dx [(fld, v)])) a (exo a C (some dx)))) : tOst K fld (tVar i) (tVar j) D σ H :=
  ⟨v, hj, .ref a, hi, a, C, rfl, o, n, .inl ⟨h, q⟩⟩
end Fg

set_option Elab.async false
set_option linter.all false
set_option maxRecDepth 100000
set_option maxHeartbeats 4000000
namespace Fg
open PySem PySem.Spec PyProof.Rows L2
/-! ### `<=` of two pairs: a whole number and a text -/
def rLeIS (K : PySem.W.Frag) : R2 := fun x y H Q => ∃ (a b : Addr) (n m : Int) (l r : List Nat), x = .ref a ∧ y = .ref b ∧ SqT K H a [.int n, .str (S l)] ∧ SqT K H b [.int m, .str (S r)] ∧ Q (.bl (decide (n < m ∨ n = m ∧ l ≤ r))) H
theorem vals_cons {v : V} {vs : List V} {us : List Value} (h : Vals (v :: vs) us) : ∃ u us', us = u :: us' ∧ RelV v u ∧ Vals vs us' := by
  cases h with
  | cons a b => exact ⟨_, _, rfl, a, b⟩
theorem op_leIS {X : Cx} (hu : X.A.units < cLine) : OpR X (compareOp .LtE) (rLeIS X.K) := by
  intro pins s σ H x y v u Q I rx ry h
  obtain ⟨a, b, n, m, l, r, rfl, rfl, ha, hb, q⟩ := h
  cases rx
  cases ry
  obtain ⟨its, r1, p1, _⟩ := I.tuple ha
  obtain ⟨its2, r2, p2, _⟩ := I.tuple hb
  obtain ⟨u1, us1, rfl, z1, r1⟩ := vals_cons r1
  obtain ⟨u2, us2, rfl, z2, r1⟩ := vals_cons r1
  cases r1
  obtain ⟨w1, ws1, rfl, y1, r2⟩ := vals_cons r2
  obtain ⟨w2, ws2, rfl, y2, r2⟩ := vals_cons r2
  cases r2
  obtain ⟨t1, rfl⟩ := z1
  obtain ⟨t2, rfl⟩ := z2
  obtain ⟨t3, rfl⟩ := y1
  obtain ⟨t4, rfl⟩ := y2
  have bq : ∀ {α : Type} [BEq α] [LawfulBEq α] [DecidableEq α] (x y : α), (x == y) = decide (x = y) := fun x y => by
    by_cases q : x = y
    · rw [decide_eq_true q]; exact beq_iff_eq.mpr q
    · rw [decide_eq_false q]; exact beq_eq_false_iff_ne.mpr q
  have sq : decide (S l = S r) = decide (l = r) := by
    by_cases q : l = r
    · rw [decide_eq_true q, decide_eq_true (by rw [q])]
    · rw [decide_eq_false q, decide_eq_false (fun z => q (by
        have := congrArg (fun s : Str => s.cps.toList) z
        simpa [S] using this))]
  have e0 : SeqAt.EqAt X.A.in1 s (.int n t1) (.int m t3) (decide (n = m)) := by
    rw [← bq]; exact SeqAt.EqAt.int_int _ _ _ _
  have e1 : SeqAt.EqAt X.A.in1 s (.str (S l) t2) (.str (S r) t4) (decide (l = r)) := by
    rw [← sq, ← bq]; exact SeqAt.EqAt.str_str _ _ _ _
  have c0 : Ob.RcOp .LtE X.A.in1 s (.int n t1) (.int m t3) (decide (n ≤ m)) := Ob.RcOp.le_int _ _ _ _
  have c1 : Ob.RcOp .LtE X.A.in1 s (.str (S l) t2) (.str (S r) t4) (decide (l ≤ r)) := fun prog w E Q h => P.le_str (by
    have e : (!decide ((S r).cps.toList < (S l).cps.toList)) = decide (l ≤ r) := by
      have h1 : (S r).cps.toList = r := by simp [S]
      have h2 : (S l).cps.toList = l := by simp [S]
      rw [h1, h2]
      by_cases q : r < l
      · rw [decide_eq_true q, decide_eq_false (fun z => z q)]; rfl
      · rw [decide_eq_false q, decide_eq_true (List.not_lt.mp q)]; rfl
    rw [e]; exact h)
  have R := Ob.RcOp.tuples_le (A := X.A) (s := s) (e := fun j => if j = 0 then decide (n = m) else decide (l = r)) (r := fun j => if j = 0 then decide (n ≤ m) else decide (l ≤ r)) p1 p2 hu (fun j h1 h2 => by
    match j, h1, h2 with
    | 0, _, _ => exact e0
    | 1, _, _ => exact e1
    | j + 2, h, _ => exact absurd h (by show ¬ j + 2 < 2; omega)) (fun j h1 h2 _ => by
    match j, h1, h2 with
    | 0, _, _ => exact c0
    | 1, _, _ => exact c1
    | j + 2, h, _ => exact absurd h (by show ¬ j + 2 < 2; omega))
  have R' : Ob.RcOp .LtE X.A s (.ref a) (.ref b) (if decide (n = m) = true then (if decide (l = r) = true then true else decide (l ≤ r)) else decide (n ≤ m)) := R
  have ev : (if decide (n = m) = true then (if decide (l = r) = true then true else decide (l ≤ r)) else decide (n ≤ m)) = decide (n < m ∨ n = m ∧ l ≤ r) := by
    by_cases h1 : n = m
    · rw [if_pos (decide_eq_true h1)]
      by_cases h2 : l = r
      · rw [if_pos (decide_eq_true h2), decide_eq_true (.inr ⟨h1, by rw [h2]; exact List.le_refl r⟩)]
      · rw [if_neg (by rw [decide_eq_false h2]; decide)]
        by_cases h3 : l ≤ r
        · rw [decide_eq_true h3, decide_eq_true (.inr ⟨h1, h3⟩)]
        · rw [decide_eq_false h3, decide_eq_false (by rintro (z | ⟨_, z⟩); omega; exact h3 z)]
    · rw [if_neg (by rw [decide_eq_false h1]; decide)]
      by_cases h2 : n ≤ m
      · rw [decide_eq_true h2, decide_eq_true (.inl (by omega))]
      · rw [decide_eq_false h2, decide_eq_false (by rintro (z | ⟨z, _⟩) <;> omega)]
  rw [ev] at R'
  have z : wpAny (model X.prog X.w) X.A (compareOp .LtE (.ref a) (.ref b)) (EP X pins σ Q) X.xe s := R' X.prog X.w X.xe (EP X pins σ Q) ⟨.bl _, H, I, rfl, q⟩
  exact z
end Fg

set_option Elab.async false
set_option linter.all false
set_option maxRecDepth 100000
set_option maxHeartbeats 4000000
namespace Fg
open PySem PySem.Spec PyProof.Rows L2
/-! ### min(texts, key=lambda text: (len(text), text)) -/
def ltIS (l r : List Nat) : Prop := l.length < r.length ∨ l.length = r.length ∧ l < r
def leIS (l r : List Nat) : Prop := l.length < r.length ∨ l.length = r.length ∧ l ≤ r
instance (l r : List Nat) : Decidable (ltIS l r) := by unfold ltIS; infer_instance
theorem leIS.refl (l : List Nat) : leIS l l := .inr ⟨rfl, List.le_refl l⟩
theorem leIS.of_not {l r : List Nat} (h : ¬ ltIS r l) : leIS l r := by
  unfold ltIS at h
  unfold leIS
  by_cases h1 : l.length < r.length
  · exact .inl h1
  · refine .inr ⟨?_, ?_⟩
    · by_cases h2 : r.length < l.length
      · exact absurd (.inl h2) h
      · omega
    · by_cases h2 : r < l
      · exact absurd (.inr ⟨by
          by_cases h3 : r.length < l.length
          · exact absurd (.inl h3) h
          · omega, h2⟩) h
      · exact List.not_lt.mp h2
theorem ltIS.le {l r : List Nat} (h : ltIS l r) : leIS l r := by
  rcases h with h | ⟨h1, h2⟩
  · exact .inl h
  · exact .inr ⟨h1, List.le_of_lt h2⟩
theorem leIS.trans {a b c : List Nat} (h1 : leIS a b) (h2 : leIS b c) : leIS a c := by
  rcases h1 with h1 | ⟨e1, h1⟩
  · rcases h2 with h2 | ⟨e2, h2⟩
    · exact .inl (by omega)
    · exact .inl (by omega)
  · rcases h2 with h2 | ⟨e2, h2⟩
    · exact .inl (by omega)
    · exact .inr ⟨by omega, List.le_trans h1 h2⟩
theorem rc_ltIS {X : Cx} {pins : List (Addr × Obj)} {σ : L2.St} {H : Hp} {s : Shared} {A : Around} {a b : Addr} {n m : Int} {l r : List Nat} (I : Inv X pins σ H s) (hu : A.units < cLine) (ha : SqT X.K H a [.int n, .str (S l)]) (hb : SqT X.K H b [.int m, .str (S r)]) :
    Ob.RcOp .Lt A s (.ref a) (.ref b) (decide (n < m ∨ n = m ∧ l < r)) := by
  obtain ⟨its, r1, p1, _⟩ := I.tuple ha
  obtain ⟨its2, r2, p2, _⟩ := I.tuple hb
  obtain ⟨u1, us1, rfl, z1, r1⟩ := vals_cons r1
  obtain ⟨u2, us2, rfl, z2, r1⟩ := vals_cons r1
  cases r1
  obtain ⟨w1, ws1, rfl, y1, r2⟩ := vals_cons r2
  obtain ⟨w2, ws2, rfl, y2, r2⟩ := vals_cons r2
  cases r2
  obtain ⟨t1, rfl⟩ := z1
  obtain ⟨t2, rfl⟩ := z2
  obtain ⟨t3, rfl⟩ := y1
  obtain ⟨t4, rfl⟩ := y2
  have bq : ∀ {α : Type} [BEq α] [LawfulBEq α] [DecidableEq α] (x y : α), (x == y) = decide (x = y) := fun x y => by
    by_cases q : x = y
    · rw [decide_eq_true q]; exact beq_iff_eq.mpr q
    · rw [decide_eq_false q]; exact beq_eq_false_iff_ne.mpr q
  have sq : decide (S l = S r) = decide (l = r) := by
    by_cases q : l = r
    · rw [decide_eq_true q, decide_eq_true (by rw [q])]
    · rw [decide_eq_false q, decide_eq_false (fun z => q (S_inj z))]
  have e0 : SeqAt.EqAt A.in1 s (.int n t1) (.int m t3) (decide (n = m)) := by
    rw [← bq]; exact SeqAt.EqAt.int_int _ _ _ _
  have e1 : SeqAt.EqAt A.in1 s (.str (S l) t2) (.str (S r) t4) (decide (l = r)) := by
    rw [← sq, ← bq]; exact SeqAt.EqAt.str_str _ _ _ _
  have c0 : Ob.RcOp .Lt A.in1 s (.int n t1) (.int m t3) (decide (n < m)) := Ob.RcOp.lt_int _ _ _ _
  have c1 : Ob.RcOp .Lt A.in1 s (.str (S l) t2) (.str (S r) t4) (decide (l < r)) := fun prog w E Q h => PySem.P.lt_str (by
    have e : decide ((S l).cps.toList < (S r).cps.toList) = decide (l < r) := by
      rw [S_cps, S_cps]
    rw [e]; exact h)
  have R := Ob.RcOp.tuples_lt (A := A) (s := s) (e := fun j => if j = 0 then decide (n = m) else decide (l = r)) (r := fun j => if j = 0 then decide (n < m) else decide (l < r)) p1 p2 hu (fun j h1 h2 => by
    match j, h1, h2 with
    | 0, _, _ => exact e0
    | 1, _, _ => exact e1
    | j + 2, h, _ => exact absurd h (by show ¬ j + 2 < 2; omega)) (fun j h1 h2 _ => by
    match j, h1, h2 with
    | 0, _, _ => exact c0
    | 1, _, _ => exact c1
    | j + 2, h, _ => exact absurd h (by show ¬ j + 2 < 2; omega))
  have R' : Ob.RcOp .Lt A s (.ref a) (.ref b) (if decide (n = m) = true then (if decide (l = r) = true then false else decide (l < r)) else decide (n < m)) := R
  have ev : (if decide (n = m) = true then (if decide (l = r) = true then false else decide (l < r)) else decide (n < m)) = decide (n < m ∨ n = m ∧ l < r) := by
    by_cases h1 : n = m
    · rw [if_pos (decide_eq_true h1)]
      by_cases h2 : l = r
      · rw [if_pos (decide_eq_true h2), decide_eq_false (by rintro (z | ⟨_, z⟩); omega; rw [h2] at z; exact List.lt_irrefl r z)]
      · rw [if_neg (by rw [decide_eq_false h2]; decide)]
        by_cases h3 : l < r
        · rw [decide_eq_true h3, decide_eq_true (.inr ⟨h1, h3⟩)]
        · rw [decide_eq_false h3, decide_eq_false (by rintro (z | ⟨_, z⟩); omega; exact h3 z)]
    · rw [if_neg (by rw [decide_eq_false h1]; decide)]
      by_cases h2 : n < m
      · rw [decide_eq_true h2, decide_eq_true (.inl h2)]
      · rw [decide_eq_false h2, decide_eq_false (by rintro (z | ⟨z, _⟩) <;> omega)]
  rw [ev] at R'
  exact R'
/-- what the key's function at f gives, and keeps -/
def KeyFn (X : Cx) (pins : List (Addr × Obj)) (σ : L2.St) (H : Hp) (A : Around) (f : Addr) (fo : Obj) : Prop :=
  ∀ (l : List Nat) (tk : Tok) (s : Shared) (Hc : Hp), l.length ≤ sizeLine → (∀ b o, H b = some o → Hc b = some o) → Inv X pins σ Hc s → s.heap.get? f = some fo → Hc f = none →
    wpAny (model X.prog X.w) A (call (.ref f) [.str (S l) tk]) (fun u s' => ∃ a H', u = .ref a ∧ Inv X pins σ H' s' ∧ (∀ b o, Hc b = some o → H' b = some o) ∧ SqT X.K H' a [.int l.length, .str (S l)] ∧
      (∀ b o, s.heap.get? b = some o → Hc b = none → b ∉ frs X.stack → s'.heap.get? b = some o ∧ H' b = none)) (fun _ _ => False) s
theorem SqL.ext {K : PySem.W.Frag} {H H' : Hp} {a : Addr} {xs : List V} (h : SqL K H a xs) (e : ∀ b o, H b = some o → H' b = some o) : SqL K H' a xs := by
  rcases h with (h | ⟨o, h⟩) | h
  · exact .inl (.inl (e _ _ h))
  · exact .inl (.inr ⟨o, e _ _ h⟩)
  · exact .inr h
theorem SqT.ext {K : PySem.W.Frag} {H H' : Hp} {a : Addr} {xs : List V} (h : SqT K H a xs) (e : ∀ b o, H b = some o → H' b = some o) : SqT K H' a xs := by
  rcases h with (h | ⟨o, h⟩) | h
  · exact .inl (.inl (e _ _ h))
  · exact .inl (.inr ⟨o, e _ _ h⟩)
  · exact .inr h
section
variable {X : Cx} {pins : List (Addr × Obj)} {σ : L2.St} {H : Hp} {A : Around} {R : Result → Shared → Prop} {f l I0 S0 : Addr} {fo : Obj} {ts : List (List Nat)}
theorem mlam_loop (hh : A.handled = none) (hu : A.in1.units < cLine) (key : KeyFn X pins σ H A.in1 f fo) (hl : SqL X.K H l (ts.map fun t => V.str (S t))) (hz : ∀ t ∈ ts, t.length ≤ sizeLine)
    (rI : FbM.Rec X pins I0) (rS : FbM.Rec X pins S0) (nff : f ∉ frs X.stack) (nfI : f ≠ I0) (nfS : f ≠ S0) (nIS : S0 ≠ I0) (nlI : l ≠ I0)
    (hR : ∀ (m : List Nat) (H' : Hp) (s' : Shared) (tk : Tok), Inv X pins σ H' s' → (∀ b o, H b = some o → H' b = some o) → m ∈ ts → (∀ t ∈ ts, leIS m t) → R (.ok (.ret (.str (S m) tk))) s') :
    ∀ (r j : Nat) (s : Shared) (Hc : Hp) (lb : List Nat) (tb : Tok) (ab : Addr) (c : Nat), ts.length - (j + 1) = r → j + 1 ≤ ts.length → Inv X pins σ Hc s → (∀ b o, H b = some o → Hc b = some o) →
      s.heap.get? f = some fo → Hc f = none → s.heap.get? S0 = some (seqObj "list" #[.str (S lb) tb, .ref ab] c) → Hc S0 = none → s.heap.IsListIter I0 l (j + 1) → Hc I0 = none →
      SqT X.K Hc ab [.int lb.length, .str (S lb)] → lb ∈ ts → (∀ i t, i ≤ j → ts[i]? = some t → leIS lb t) →
      codeAny (model X.prog X.w) A (.builtin "min.loop" ⟨[.ref I0, .ref f, .ref S0], []⟩) R s := by
  have hname : (toString "min" ++ toString ".loop" : String) = "min.loop" := by decide
  intro r
  induction r with
  | zero =>
    intro j s Hc lb tb ab c hr hj I ex hf uf hS uS hit uI sq hm hb
    have hin : j + 1 = ts.length := by omega
    obtain ⟨its, rv, pl, _⟩ := I.list (SqL.ext hl ex)
    have W := Walks.list (prog := X.prog) (w := X.w) (A := A.in1) hh I0 l nlI its.toArray
    have hsz : its.toArray.size = j + 1 := by
      have e := rv.length
      rw [List.length_map] at e
      rw [List.size_toArray, ← e, hin]
    refine codeAny_builtin PySem.F.entry_min_loop ?_
    rw [Around.under_plainId PySem.F.plain_min_loop _]
    show wpAny _ A.in1 (seqItems? (.ref S0) >>= _) _ _ _
    refine wpAny_bind (wpAny_seqItems hS rfl ?_)
    show wpAny _ A.in1 (tryCatch (pyNext (.ref I0)) _ >>= _) _ _ _
    refine wpAny_bind (wpAny_tryCatch (W.done _ _ _ ⟨by rw [hsz]; exact hit, pl.isList⟩ fun h' tk' hk' => ?_))
    have I1 : Inv X pins σ Hc { s with heap := h', toks := tk' } := rI.turn I uI fun c o hc e => hk' c o (by simpa using hc) e
    have hS' := hk' S0 _ (by simpa using nIS) hS
    show wpAny _ A.in1 (updateSeq S0 (fun _ => #[]) >>= _) _ _ _
    refine wpAny_bind ?_
    refine wpAny_updateSeq hS' rfl (wpAny_bind (wpAny_letGo (wpAny_pure ?_)))
    have sb := Heap.SameBut.update h' S0 (Obj.mapSeq fun _ => (#[] : Array Value))
    have I2 : Inv X pins σ Hc { s with heap := h'.update S0 (Obj.mapSeq fun _ => (#[] : Array Value)), toks := tk' } := rS.turn (s := { s with heap := h', toks := tk' }) (t' := tk') I1 uS fun c o hc e => sb.extBut c o hc e
    refine hR lb Hc _ tb I2 ex hm fun t ht => ?_
    obtain ⟨i, hi, e⟩ := List.getElem_of_mem ht
    exact hb i t (by omega) (by rw [List.getElem?_eq_getElem hi, e])
  | succ r ih =>
    intro j s Hc lb tb ab c hr hj I ex hf uf hS uS hit uI sq hm hb
    have hlt : j + 1 < ts.length := by omega
    obtain ⟨its, rv, pl, _⟩ := I.list (SqL.ext hl ex)
    have W := Walks.list (prog := X.prog) (w := X.w) (A := A.in1) hh I0 l nlI its.toArray
    have hsz : its.toArray.size = ts.length := by
      have e := rv.length
      rw [List.length_map] at e
      rw [List.size_toArray, ← e]
    refine codeAny_builtin PySem.F.entry_min_loop ?_
    rw [Around.under_plainId PySem.F.plain_min_loop _]
    show wpAny _ A.in1 (seqItems? (.ref S0) >>= _) _ _ _
    refine wpAny_bind (wpAny_seqItems hS rfl ?_)
    show wpAny _ A.in1 (tryCatch (pyNext (.ref I0)) _ >>= _) _ _ _
    refine wpAny_bind (wpAny_tryCatch (W.item (j + 1) _ _ _ (by rw [hsz]; exact hlt) ⟨hit, pl.isList⟩ fun v h' tk' hP hst' hk' => ?_))
    have hv : its[j + 1]? = some v := by simpa using hP
    have I1 : Inv X pins σ Hc { s with heap := h', toks := tk' } := rI.turn I uI fun c o hc e => hk' c o (by simpa using hc) e
    have ht : ts[j + 1]? = some ts[j + 1] := List.getElem?_eq_getElem hlt
    have hmem : ts[j + 1] ∈ ts := List.getElem_mem hlt
    generalize ts[j + 1] = t at ht hmem
    obtain ⟨u, hu1, ru⟩ := rv.get (i := j + 1) (x := V.str (S t)) (by rw [List.getElem?_map, ht]; rfl)
    rw [hv] at hu1
    cases hu1
    obtain ⟨tt, rfl⟩ := ru
    have hf1 : h'.get? f = some fo := hk' f _ (by simpa using nfI) hf
    have hS1 := hk' S0 _ (by simpa using nIS) hS
    obtain ⟨oI', hoI', hoc, hod⟩ := id hst'.1
    show wpAny _ A.in1 (tryCatch (holding [.str (S t) tt] (call (.ref f) [.str (S t) tt])) _ >>= _) _ _ _
    refine wpAny_bind (wpAny_tryCatch (wpAny_holding (wpAny_mono (key t tt _ Hc (hz t hmem) ex I1 hf1 uf) (fun x s'' he => ?_) fun _ _ hF => hF.elim)))
    obtain ⟨a2, H2, rfl, I2, ex2, sq2, kp2⟩ := he
    obtain ⟨hf2, uf2⟩ := kp2 f fo hf1 uf nff
    obtain ⟨hS2, uS2⟩ := kp2 S0 _ hS1 uS rS.fr
    obtain ⟨hI2, uI2⟩ := kp2 I0 _ hoI' uI rI.fr
    have hit2 : s''.heap.IsListIter I0 l (j + 1 + 1) := ⟨oI', hI2, hoc, hod⟩
    have sqb := SqT.ext sq ex2
    show wpAny _ A.in1 (tryCatch (holding [.str (S t) tt, .ref a2] (richCompare .Lt (.ref a2) (.ref ab) >>= _)) _ >>= _) _ _ _
    refine wpAny_bind (wpAny_tryCatch (wpAny_holding (wpAny_bind (rc_ltIS I2 hu sq2 sqb _ _ _ _ ?_))))
    refine wpAny_bind (wpAny_holding (wpAny_truthy_bool ?_))
    refine wpAny_bind (wpAny_letGo (wpAny_pure ?_))
    have eqI : ((t.length : Int) < lb.length ∨ (t.length : Int) = lb.length ∧ t < lb) ↔ ltIS t lb := by
      unfold ltIS
      constructor
      · rintro (z | ⟨z1, z2⟩)
        · exact .inl (by omega)
        · exact .inr ⟨by omega, z2⟩
      · rintro (z | ⟨z1, z2⟩)
        · exact .inl (by omega)
        · exact .inr ⟨by omega, z2⟩
    by_cases hlt2 : ltIS t lb
    · simp only [eqI.mpr hlt2, decide_true, if_true]
      have sb := Heap.SameBut.update s''.heap S0 (Obj.mapSeq fun _ => #[.str (S t) tt, .ref a2])
      obtain ⟨c2, hc2⟩ : ∃ c2, (s''.heap.update S0 (Obj.mapSeq fun _ => #[.str (S t) tt, .ref a2])).get? S0 = some (seqObj "list" #[.str (S t) tt, .ref a2] c2) := ⟨_, get?_update_seq hS2 fun _ => #[.str (S t) tt, .ref a2]⟩
      refine wpAny_bind ?_
      refine wpAny_updateSeq hS2 rfl (wpAny_bind (wpAny_letGo ?_))
      rw [hname]
      have I3 : Inv X pins σ H2 { s'' with heap := s''.heap.update S0 (Obj.mapSeq fun _ => #[.str (S t) tt, .ref a2]) } := rS.turn (t' := s''.toks) I2 uS2 fun c o hc e => sb.extBut c o hc e
      refine wpAny_pure ⟨plainId_quiet PySem.F.plain_min_loop _, ih (j + 1) _ H2 t tt a2 c2 (by omega) hlt I3 (fun b o e => ex2 b o (ex b o e)) ((sb.2 f nfS).trans hf2) uf2 hc2 uS2 ⟨oI', (sb.2 I0 nIS.symm).trans hI2, hoc, hod⟩ uI2 sq2 hmem fun i t' hi e => ?_⟩
      by_cases hi2 : i = j + 1
      · rw [hi2, ht] at e
        cases e
        exact leIS.refl _
      · exact hlt2.le.trans (hb i t' (by omega) e)
    · simp only [show ¬ ((t.length : Int) < lb.length ∨ (t.length : Int) = lb.length ∧ t < lb) from fun z => hlt2 (eqI.mp z), decide_false, Bool.false_eq_true, if_false]
      refine wpAny_bind (wpAny_letGo ?_)
      rw [hname]
      refine wpAny_pure ⟨plainId_quiet PySem.F.plain_min_loop _, ih (j + 1) _ H2 lb tb ab c (by omega) hlt I2 (fun b o e => ex2 b o (ex b o e)) hf2 uf2 hS2 uS2 hit2 uI2 sqb hm fun i t' hi e => ?_⟩
      by_cases hi2 : i = j + 1
      · rw [hi2, ht] at e
        cases e
        exact leIS.of_not hlt2
      · exact hb i t' (by omega) e
theorem mlam_min (hh : A.handled = none) (hu : A.in1.units < cLine) (key : KeyFn X pins σ H A.in1 f fo) (hl : SqL X.K H l (ts.map fun t => V.str (S t))) (hz : ∀ t ∈ ts, t.length ≤ sizeLine) (nff : f ∉ frs X.stack) (hne : 0 < ts.length)
    {s : Shared} {Q : Value → Shared → Prop} {E : Value → Shared → Prop} (I : Inv X pins σ H s) (hf : s.heap.get? f = some fo) (uf : H f = none)
    (hQ : ∀ (m : List Nat) (H' : Hp) (s' : Shared) (tk : Tok), Inv X pins σ H' s' → (∀ b o, H b = some o → H' b = some o) → m ∈ ts → (∀ t ∈ ts, leIS m t) → Q (.str (S m) tk) s') :
    wpAny (model X.prog X.w) A (call (.builtin "min") [.ref l] [(Str.ofString "key", .ref f)]) Q E s := by
  have hname : (toString "min" ++ toString ".loop" : String) = "min.loop" := by decide
  obtain ⟨its, rv, pl, _⟩ := I.list hl
  have hls := pl.isList
  obtain ⟨ol, hol, _⟩ := id hls
  have hll : l < s.heap.objs.size := Heap.lt_size hol
  have hfl : f < s.heap.objs.size := Heap.lt_size hf
  refine kmk_tree PySem.F.kind_min PySem.F.plain_min PySem.F.entry_min (kmk_min_key _ _) ?_
  show wpAny _ A.in1 (Builtin.Builtins.bindParams "min" ["key", "default"] 0 ⟨[], [(Str.ofString "key", .ref f)]⟩ >>= _) _ _ s
  refine wpAny_bind (wpAny_of_eq (show Builtin.Builtins.bindParams "min" ["key", "default"] 0 ⟨[], [(Str.ofString "key", .ref f)]⟩ = pure [some (.ref f), none] from rfl) ?_)
  refine wpAny_bind (wpAny_pure ?_)
  refine wpAny_bind (wpAny_pyIter_list hls ?_)
  refine wpAny_bind (wpAny_newList ?_ (Nat.zero_le _))
  rw [hname]
  have hS : (s.heap.push { cls := .type "list_iterator", data := .fields #[.ref l, .int 0 0] }).objs.size = s.heap.objs.size + 1 := size_push' ..
  have nlI : l ≠ s.heap.objs.size := Nat.ne_of_lt hll
  have nIS : (s.heap.push { cls := .type "list_iterator", data := .fields #[.ref l, .int 0 0] }).objs.size ≠ s.heap.objs.size := by rw [hS]; exact Nat.ne_of_gt (Nat.lt_succ_self _)
  have nfI : f ≠ s.heap.objs.size := Nat.ne_of_lt hfl
  have nfS : f ≠ (s.heap.push { cls := .type "list_iterator", data := .fields #[.ref l, .int 0 0] }).objs.size := by rw [hS]; exact Nat.ne_of_lt (Nat.lt_succ_of_lt hfl)
  refine wpAny_pure ⟨plainId_quiet PySem.F.plain_min_loop _, ?_⟩
  have gI : ((s.heap.push { cls := .type "list_iterator", data := .fields #[.ref l, .int 0 0] }).push (seqObj "list" #[] 0)).get? s.heap.objs.size = some { cls := .type "list_iterator", data := .fields #[.ref l, .int 0 0] } :=
    Heap.get?_push_of_some _ (Heap.get?_push_size _ rfl)
  have gS : ((s.heap.push { cls := .type "list_iterator", data := .fields #[.ref l, .int 0 0] }).push (seqObj "list" #[] 0)).get? (s.heap.push { cls := .type "list_iterator", data := .fields #[.ref l, .int 0 0] }).objs.size = some (seqObj "list" #[] 0) := Heap.get?_push_size _ rfl
  have rI : FbM.Rec X pins s.heap.objs.size := FbM.rec_new I (Nat.le_refl _)
  have rS : FbM.Rec X pins (s.heap.push { cls := .type "list_iterator", data := .fields #[.ref l, .int 0 0] }).objs.size := FbM.rec_new I (by rw [hS]; exact Nat.le_succ _)
  have uI : H s.heap.objs.size = none := I.hok.fresh (Nat.le_refl _)
  have uS : H (s.heap.push { cls := .type "list_iterator", data := .fields #[.ref l, .int 0 0] }).objs.size = none := I.hok.fresh (by rw [hS]; exact Nat.le_succ _)
  have I1 : Inv X pins σ H { s with heap := (s.heap.push { cls := .type "list_iterator", data := .fields #[.ref l, .int 0 0] }).push (seqObj "list" #[] 0) } := I.kept (t' := s.toks) fun b o e => Heap.get?_push_of_some _ (Heap.get?_push_of_some _ e)
  generalize (s.heap.push { cls := .type "list_iterator", data := .fields #[.ref l, .int 0 0] }).objs.size = S0 at *
  generalize s.heap.objs.size = I0 at *
  have hf1 : ((s.heap.push { cls := .type "list_iterator", data := .fields #[.ref l, .int 0 0] }).push (seqObj "list" #[] 0)).get? f = some fo := Heap.get?_push_of_some _ (Heap.get?_push_of_some _ hf)
  generalize (s.heap.push { cls := .type "list_iterator", data := .fields #[.ref l, .int 0 0] }).push (seqObj "list" #[] 0) = hp at *
  obtain ⟨its, rv, pl, _⟩ := I1.list hl
  have W := Walks.list (prog := X.prog) (w := X.w) (A := A.in1) hh I0 l nlI its.toArray
  have hsz : its.toArray.size = ts.length := by
    have e := rv.length
    rw [List.length_map] at e
    rw [List.size_toArray, ← e]
  refine codeAny_builtin PySem.F.entry_min_loop ?_
  rw [Around.under_plainId PySem.F.plain_min_loop _]
  show wpAny _ A.in1 (seqItems? (.ref S0) >>= _) _ _ _
  refine wpAny_bind (wpAny_seqItems gS rfl ?_)
  show wpAny _ A.in1 (tryCatch (pyNext (.ref I0)) _ >>= _) _ _ _
  refine wpAny_bind (wpAny_tryCatch (W.item 0 _ _ _ (by rw [hsz]; exact hne) ⟨⟨_, gI, rfl, rfl⟩, pl.isList⟩ fun v h' tk' hP hst' hk' => ?_))
  have hv : its[0]? = some v := by simpa using hP
  have I2 : Inv X pins σ H { s with heap := h', toks := tk' } := rI.turn (s := { s with heap := hp }) I1 uI fun c o hc e => hk' c o (by simpa using hc) e
  have ht : ts[0]? = some ts[0] := List.getElem?_eq_getElem hne
  have hmem : ts[0] ∈ ts := List.getElem_mem hne
  generalize ts[0] = t at ht hmem
  obtain ⟨u, hu1, ru⟩ := rv.get (i := 0) (x := V.str (S t)) (by rw [List.getElem?_map, ht]; rfl)
  rw [hv] at hu1
  cases hu1
  obtain ⟨tt, rfl⟩ := ru
  have hf2 : h'.get? f = some fo := hk' f _ (by simpa using nfI) hf1
  have hS2 := hk' S0 _ (by simpa using nIS) gS
  obtain ⟨oI', hoI', hoc, hod⟩ := id hst'.1
  show wpAny _ A.in1 (tryCatch (holding [.str (S t) tt] (call (.ref f) [.str (S t) tt])) _ >>= _) _ _ _
  refine wpAny_bind (wpAny_tryCatch (wpAny_holding (wpAny_mono (key t tt _ H (hz t hmem) (fun _ _ z => z) I2 hf2 uf) (fun x s'' he => ?_) fun _ _ hF => hF.elim)))
  obtain ⟨a2, H2, rfl, I3, ex3, sq3, kp3⟩ := he
  obtain ⟨hf3, uf3⟩ := kp3 f fo hf2 uf nff
  obtain ⟨hS3, uS3⟩ := kp3 S0 _ hS2 uS rS.fr
  obtain ⟨hI3, uI3⟩ := kp3 I0 _ hoI' uI rI.fr
  have sb := Heap.SameBut.update s''.heap S0 (Obj.mapSeq fun _ => #[.str (S t) tt, .ref a2])
  obtain ⟨c2, hc2⟩ : ∃ c2, (s''.heap.update S0 (Obj.mapSeq fun _ => #[.str (S t) tt, .ref a2])).get? S0 = some (seqObj "list" #[.str (S t) tt, .ref a2] c2) := ⟨_, get?_update_seq hS3 fun _ => #[.str (S t) tt, .ref a2]⟩
  show wpAny _ A.in1 (updateSeq S0 (fun _ => #[.str (S t) tt, .ref a2]) >>= _) _ _ _
  refine wpAny_bind ?_
  refine wpAny_updateSeq hS3 rfl ?_
  rw [hname]
  have I4 : Inv X pins σ H2 { s'' with heap := s''.heap.update S0 (Obj.mapSeq fun _ => #[.str (S t) tt, .ref a2]) } := rS.turn (t' := s''.toks) I3 uS3 fun c o hc e => sb.extBut c o hc e
  refine wpAny_pure ⟨plainId_quiet PySem.F.plain_min_loop _, mlam_loop hh hu key hl hz rI rS nff nfI nfS nIS nlI hQ _ 0 _ H2 t tt a2 c2 rfl hne I4 ex3 ((sb.2 f nfS).trans hf3) uf3 hc2 uS3 ⟨oI', (sb.2 I0 nIS.symm).trans hI3, hoc, hod⟩ uI3 sq3 hmem fun i t' hi e => ?_⟩
  have e0 : i = 0 := by omega
  rw [e0, ht] at e
  cases e
  exact leIS.refl _
end
end Fg

set_option Elab.async false
set_option linter.all false
set_option maxRecDepth 100000
set_option maxHeartbeats 4000000
namespace Fg
open PySem PySem.Spec PyProof.Rows L2 LamX NdefX
section
variable {X : Cx} {pins : List (Addr × Obj)} {σ : L2.St} {H : Hp} {f c' : Addr} {q y : Str} {params : Arguments} {body : Expr} {scope : Scope} {pm ctv : Value} {k : Nat} {tb : TE}
/-- the lambda, called: its one parameter is y, its body tells the pair -/
theorem lam_key (hr : Room (k + 2) X.A) (hcH : H c' = some (CodeO c' q)) (Sc : NScope [y] [y] [] scope) (nff : f ∉ frs X.stack)
    (hbind : ∀ u : Value, bindArgs (PySem.W.kla_fn "<lambda>" q params body scope [] pm (.ref c') ctv) ⟨[u], []⟩ = pure [(y, u)])
    (hbody : ∀ (A : Around) (outer : List Env) (s : Shared) (H : Hp), Room k (A.deeper (envF ⟨y, q, params, [], scope, [], c'⟩ f s.heap.objs.size)) → PE (ncx L2.CX0 X.prog X.w X.K X.mg X.base [y] ⟨y, q, params, [], scope, [], c'⟩ f A outer s H L2.E0) body tb)
    (htb : ∀ (l : List Nat) (H : Hp) (Q : VK), l.length ≤ sizeLine → (∀ a, H a = none → Q (.ref a) (upd H a (.tup [.int l.length, .str (S l)]))) → tb [some (.str (S l))] H Q) :
    KeyFn X pins σ H X.A.in1 f (PySem.W.kla_obj "<lambda>" q params body scope [] pm c' ctv) := by
  intro l tk s Hc hl ex I hf uf
  have hco := ex _ _ hcH
  obtain ⟨⟨oc, vs, t, hoc, hdc, hvc⟩, _, _⟩ := I.hok c' _ hco
  have e0 := I.env0.in1
  have lim : s.heap.NoLimit := e0.mod.nolimit.keeps fun b o e => (e0.bs b o e).1
  have hr1 : Room (k + 1) X.A.in1 := Room.in1 hr
  have C : CellsAt ([] : List (Str × Addr)) [] [] s.heap Hc := ⟨rfl, fun y c h => by simp at h, fun x y c h => by simp at h, fun i y h => by simp at h⟩
  have rc : codeAny (model X.prog X.w) X.A.in1 (.call (.ref f) ⟨[.str (S l) tk], []⟩) (CR L2.CX0 X.stack X.prog X.w Hc s (fun v H' => ∃ a, v = .ref a ∧ Hc a = none ∧ H' = upd Hc a (.tup [.int l.length, .str (S l)])) L2.E0) s := by
    refine PySem.W.kla_callFunE hr1.depth hf rfl Sc.co Sc.gen rfl ⟨c', oc, vs, t, rfl, hoc, hdc, hvc⟩ ?_
    rw [hbind]
    refine wpAny_pure (wpAny_newFunctionEnv Sc.nocell (fun z hz => by
      rw [List.mem_singleton.mp hz]
      exact Sc.par y (List.mem_singleton.mpr rfl)) (fun h₁ hns hsb => ⟨lim.fresh _ hsb, ?_⟩) Sc.kind)
    show codeAny _ _ (.expr body (envF ⟨y, q, params, [], scope, [], c'⟩ f s.heap.objs.size)) _ _
    have kp : ∀ b o, s.heap.get? b = some o → h₁.get? b = some o := fun b o e => hsb.extBut b o (Nat.ne_of_lt (Heap.lt_size e)) (Heap.get?_push_of_some _ e)
    have J := inv_startN (F := ⟨y, q, params, [], scope, [], c'⟩) (f := f) (E := L2.E0) (CX := L2.CX0) (tk := s.toks + 1) Sc hr1.hd e0 (vs := [.str (S l)]) (us := [.str (S l) tk]) rfl (.cons (show RelV (V.str (S l)) (Value.str (S l) tk) from ⟨tk, rfl⟩) .nil) C hns kp
    refine PySem.W.kla_codeExpr (wpAny_mono ((hbody X.A.in1 X.stack s Hc (hr1.deeper _)).run [] _ _ Hc _ J (htb l Hc (fun v H' => ∃ a, v = .ref a ∧ Hc a = none ∧ H' = upd Hc a (.tup [.int l.length, .str (S l)])) hl fun a ha => ⟨a, rfl, ha, rfl⟩)) (fun v s' hq => ?_) fun e s' hq => hq)
    obtain ⟨w', H', J', rv, q⟩ := hq
    exact ⟨w', H', J'.os, J'.bare, J'.base, J'.hok, rv, q⟩
  refine wpAny_call (codeAny_mono rc fun r s' hq => ?_)
  cases r with
  | error e => exact False.elim hq
  | ok fl =>
    cases fl with
    | next => exact False.elim hq
    | brk => exact False.elim hq
    | cont => exact False.elim hq
    | ret u =>
      obtain ⟨v, H', os, bare, un, hok, rv, a, ev, na, eH⟩ := (show CE X.stack X.prog X.w Hc s _ u s' from hq)
      subst ev
      subst eH
      obtain rfl : u = Value.ref a := rv
      have I2 := I.call' os un hok bare (fun b y => absurd y List.not_mem_nil)
      refine ⟨a, _, rfl, I2, fun b o e => ?_, .inl (.inl upd_same), fun b o e1 e2 e3 => ⟨un.keep b o e1 e2 e3 List.not_mem_nil, un.free b o e1 e2 List.not_mem_nil⟩⟩
      rw [upd_ne (fun z => by rw [z, na] at e; cases e)]
      exact e
end
theorem SqL.extN {K : PySem.W.Frag} {H H' : Hp} {a : Addr} {xs : List V} (h : SqL K H a xs) (e : ExtN H H') : SqL K H' a xs := by
  rcases h with (h | ⟨o, h⟩) | h
  · exact .inl (.inl (e _ _ h (fun _ z => by cases z)))
  · exact .inl (.inr ⟨o, e _ _ h (fun _ z => by cases z)⟩)
  · exact .inr h
/-- min(e, key=lambda ..): the least of the texts, by length and then by itself -/
def rMinKey (T : List (Addr × Str)) (K : PySem.W.Frag) (Q : VK) (v : V) (H1 : Hp) : Prop := Tabs T H1 ∧ ∃ (l : Addr) (ts : List (List Nat)), v = .ref l ∧ SqL K H1 l (ts.map fun t => V.str (S t)) ∧ ts ≠ [] ∧ (∀ t ∈ ts, t.length ≤ sizeLine) ∧
  ∀ (H2 : Hp) (m : List Nat), ExtN H1 H2 → Tabs T H2 → m ∈ ts → (∀ t ∈ ts, leIS m t) → Q (.str (S m)) H2
def rMinKeys (T : List (Addr × Str)) (K : PySem.W.Frag) (Q : VK) : List V → Hp → Prop
  | [v], H1 => rMinKey T K Q v H1
  | _, _ => False
def tMinKey (T : List (Addr × Str)) (K : PySem.W.Frag) (te : TE) : TE := fun σ H Q => te σ H fun v H1 => rMinKey T K Q v H1
section
variable {X : Cx} {T : List (Addr × Str)} {c P : Addr} {x y : Str} {p pos kpos lpos : Pos} {e : Expr} {te tb : TE} {params : Arguments} {body : Expr} {scope : Scope} {k : Nat}
theorem pe_minKey (TB : TabB X.base X.mg c P) (hcode : X.env.code = .ref c) (hmT : (P, X.env.qual ++ "<lambda>") ∈ T) (hu : ∀ p ∈ T, p.1 = P → p.2 = X.env.qual ++ "<lambda>") (hr : Room (k + 2) X.A)
    (hg : Gl X "min") (hm : X.mg "min" = none) (he : PE X e te)
    (hfree : ∀ z ∈ scope.names, z.2 ≠ .free) (hdef : defaultsOf params X.env = ([], [])) (hcl : cloFrom X.env.cells scope.names [] = []) (Sc : NScope [y] [y] [] scope)
    (hbind : ∀ (q : Str) (pm cv ctv u : Value), bindArgs (PySem.W.kla_fn "<lambda>" q params body scope [] pm cv ctv) ⟨[u], []⟩ = pure [(y, u)])
    (hbody : ∀ (q : Str) (f c' : Addr) (A : Around) (outer : List Env) (s : Shared) (H : Hp), Room k (A.deeper (envF ⟨y, q, params, [], scope, [], c'⟩ f s.heap.objs.size)) → PE (ncx L2.CX0 X.prog X.w X.K X.mg X.base [y] ⟨y, q, params, [], scope, [], c'⟩ f A outer s H L2.E0) body tb)
    (htb : ∀ (l : List Nat) (H : Hp) (Q : VK), l.length ≤ sizeLine → (∀ a, H a = none → Q (.ref a) (upd H a (.tup [.int l.length, .str (S l)]))) → tb [some (.str (S l))] H Q)
    (hsp : starEach [e] X.env = (false, eval e X.env) :: starEach [] X.env := by rfl) (hsp2 : backTo pos (starEach [e] X.env) = (false, eval e X.env) :: backTo pos (starEach [] X.env) := by rfl) (hsp3 : (backTo pos (starEach [e] X.env)).any (·.1) = false := by rfl) :
    PE X (.Call (.Name "min" p) [e] [⟨some "key", .Lambda params body scope lpos, kpos⟩] pos) (tMinKey T X.K te) := by
  refine ⟨fun pins s σ H Q I h => ?_⟩
  refine wpAny_Call_Name_kw (ld_blt I hg hm boot_min ?_ (by decide) (by decide))
  refine PyProof.Rows.callWith_kw (thn ((pa_cons he pa_nil hsp).run pos pins s σ H (rMinKeys T X.K Q) I ?_) fun us s1 ⟨vs, H1, I1, r1, q1⟩ => ?_) hsp2 hsp3 (by rfl) (by rfl)
  · exact h
  · rcases vs with _ | ⟨v, _ | ⟨v2, vs⟩⟩
    · exact False.elim q1
    rotate_left
    · exact False.elim q1
    obtain ⟨hT, l, ts, rfl, hl, hne, hz, hq⟩ := q1
    cases r1 with
    | cons a b =>
      cases b
      obtain rfl := a
      show wpAny _ _ (evalAll ((do let v ← eval (.Lambda params body scope lpos) X.env; standAt pos; pure v) :: [])) _ _ s1
      refine wpAny_evalAll_cons (wpAny_bind (lam_make2 I1 TB hcode hmT hu hT hdef (fun z hz e => absurd e (hfree z hz)) fun f c' pm ctv H2 s2 I2 eN T2 hf hfn hfr hco => wpAny_bind (wpAny_standAt (wpAny_pure (wpAny_evalAll_nil ?_)))))
      rw [hcl] at hf
      refine mlam_min (A := X.A) (ts := ts) hr.hd (by have := hr.un; show X.A.units + 1 < _; omega) (lam_key hr hco Sc hfr (fun u => hbind _ _ _ _ u) (fun A outer s H h => hbody _ f c' A outer s H h) htb) (SqL.extN hl eN) hz hfr (List.length_pos_iff.mpr hne) I2 hf hfn fun m H' s' tk I' ex hm hle => ?_
      exact ⟨.str (S m), H', I', ⟨tk, rfl⟩, hq H' m (eN.trans (ExtN.of ex)) (T2.ext ex) hm hle⟩
end
end Fg

set_option Elab.async false
set_option linter.all false
set_option maxRecDepth 100000
set_option maxHeartbeats 4000000
/-! Pu: data without a heap. D: what a value stands for; ρ: what the slots hold; τ: what the objects hold that may still change (cells); WE, WT, WA, WS ..: what a reading does with these. -/
namespace Pu
open PySem PySem.Spec PyProof.Rows L2 Fg

inductive Tag where
  | tup | ktup | lst | dk (ks : List Key) | dt (ks : List (List Key)) | obj (C : Addr) (ns : List Str)
/-- a datum; tk n: the n-th cell (in a slot only) -/
inductive D where
  | non | bl (b : Bool) | int (i : Int) | str (l : List Nat) | raw (v : V) | tk (n : Nat) | node (t : Tag) (xs : List D)
abbrev D.tup (xs : List D) : D := .node .tup xs
abbrev D.ktup (xs : List D) : D := .node .ktup xs
abbrev D.lst (xs : List D) : D := .node .lst xs
abbrev D.obj (C : Addr) (ns : List Str) (xs : List D) : D := .node (.obj C ns) xs
abbrev D.dk (ks : List Key) (xs : List D) : D := .node (.dk ks) xs
abbrev D.dt (ks : List (List Key)) (xs : List D) : D := .node (.dt ks) xs

def NodeAt (K : PySem.W.Frag) (Z : Hp) (a : Addr) (vs : List V) : Tag → Prop
  | .tup => Z a = some (.tup vs)
  | .ktup => ∃ (o : Obj) (its : Array Value) (n : Nat), K.lookup a = some o ∧ o.cls = .type "tuple" ∧ o.data = .seq its n ∧ its.size ≤ sizeLine ∧ Vals vs its.toList
  | .lst => Z a = some (.lst vs)
  | .dk ks => Z a = some (.dK (ks.zip vs)) ∧ ks.length = vs.length
  | .dt ks => Z a = some (.dT (ks.zip vs)) ∧ ks.length = vs.length
  | .obj C ns => ∃ dx, Z a = some (.ins C dx (ns.zip vs)) ∧ ns.length = vs.length
theorem NodeAt.sqT {K : PySem.W.Frag} {Z : Hp} {a : Addr} {vs : List V} : ∀ {t : Tag}, (t = .tup ∨ t = .ktup) → NodeAt K Z a vs t → SqT K Z a vs
  | .tup, _, h => .inl (.inl h)
  | .ktup, _, h => .inr h
  | .lst, e, _ => by rcases e with e | e <;> cases e
  | .dk _, e, _ => by rcases e with e | e <;> cases e
  | .dt _, e, _ => by rcases e with e | e <;> cases e
  | .obj _ _, e, _ => by rcases e with e | e <;> cases e
theorem NodeAt.mono {K : PySem.W.Frag} {Z Z' : Hp} {a : Addr} {vs : List V} (e : Ex Z Z') : ∀ {t : Tag}, NodeAt K Z a vs t → NodeAt K Z' a vs t
  | .tup, h => e _ _ h
  | .ktup, h => h
  | .lst, h => e _ _ h
  | .dk _, h => ⟨e _ _ h.1, h.2⟩
  | .dt _, h => ⟨e _ _ h.1, h.2⟩
  | .obj _ _, ⟨dx, h, l⟩ => ⟨dx, e _ _ h, l⟩
mutual
/-- the value v stands for the datum; Z: what never changes any more -/
inductive Rp (K : PySem.W.Frag) (Z : Hp) : V → D → Prop
  | non : Rp K Z .non .non
  | bl (b : Bool) : Rp K Z (.bl b) (.bl b)
  | int (i : Int) : Rp K Z (.int i) (.int i)
  | str (l : List Nat) : Rp K Z (.str (S l)) (.str l)
  | raw (v : V) : Rp K Z v (.raw v)
  | node {a : Addr} {vs : List V} {t : Tag} {xs : List D} : NodeAt K Z a vs t → RpA K Z vs xs → Rp K Z (.ref a) (.node t xs)
inductive RpA (K : PySem.W.Frag) (Z : Hp) : List V → List D → Prop
  | nil : RpA K Z [] []
  | cons {v : V} {d : D} {vs : List V} {ds : List D} : Rp K Z v d → RpA K Z vs ds → RpA K Z (v :: vs) (d :: ds)
end
section
variable {K : PySem.W.Frag} {Z Z' : Hp}
mutual
theorem Rp.mono (e : Ex Z Z') : ∀ {v : V} {d : D}, Rp K Z v d → Rp K Z' v d
  | _, _, .non => .non
  | _, _, .bl b => .bl b
  | _, _, .int i => .int i
  | _, _, .str l => .str l
  | _, _, .raw v => .raw v
  | _, _, .node h r => .node (h.mono e) (RpA.mono e r)
theorem RpA.mono (e : Ex Z Z') : ∀ {vs : List V} {ds : List D}, RpA K Z vs ds → RpA K Z' vs ds
  | _, _, .nil => .nil
  | _, _, .cons h r => .cons (Rp.mono e h) (RpA.mono e r)
end
theorem RpA.length : ∀ {vs : List V} {ds : List D}, RpA K Z vs ds → vs.length = ds.length
  | _, _, .nil => rfl
  | _, _, .cons _ r => congrArg (· + 1) (RpA.length r)
theorem RpA.get : ∀ {vs : List V} {ds : List D} {i : Nat} {v : V}, RpA K Z vs ds → vs[i]? = some v → ∃ d, ds[i]? = some d ∧ Rp K Z v d
  | _, _, _, _, .nil, e => by simp at e
  | _, _, 0, _, .cons h _, e => by
    simp at e
    subst e
    exact ⟨_, rfl, h⟩
  | _, _, i + 1, _, .cons _ r, e => by
    obtain ⟨d, h1, h2⟩ := RpA.get (i := i) r (by simpa using e)
    exact ⟨d, by simpa using h1, h2⟩
theorem RpA.get' : ∀ {vs : List V} {ds : List D} {i : Nat} {d : D}, RpA K Z vs ds → ds[i]? = some d → ∃ v, vs[i]? = some v ∧ Rp K Z v d
  | _, _, _, _, .nil, e => by simp at e
  | _, _, 0, _, .cons h _, e => by
    simp at e
    subst e
    exact ⟨_, rfl, h⟩
  | _, _, i + 1, _, .cons _ r, e => by
    obtain ⟨d, h1, h2⟩ := RpA.get' (i := i) r (by simpa using e)
    exact ⟨d, by simpa using h1, h2⟩
theorem RpA.append : ∀ {vs : List V} {ds : List D} {ws : List V} {es : List D}, RpA K Z vs ds → RpA K Z ws es → RpA K Z (vs ++ ws) (ds ++ es)
  | _, _, _, _, .nil, h => h
  | _, _, _, _, .cons h r, q => .cons h (RpA.append r q)
theorem RpA.one {v : V} {d : D} (h : Rp K Z v d) : RpA K Z [v] [d] := .cons h .nil
theorem RpA.take : ∀ {vs : List V} {ds : List D} (n : Nat), RpA K Z vs ds → RpA K Z (vs.take n) (ds.take n)
  | _, _, 0, _ => by simpa using RpA.nil
  | _, _, _ + 1, .nil => .nil
  | _, _, n + 1, .cons h r => .cons h (RpA.take n r)
theorem RpA.drop : ∀ {vs : List V} {ds : List D} (n : Nat), RpA K Z vs ds → RpA K Z (vs.drop n) (ds.drop n)
  | _, _, 0, h => by simpa using h
  | _, _, _ + 1, .nil => .nil
  | _, _, n + 1, .cons _ r => RpA.drop n r
theorem RpA.set : ∀ {vs : List V} {ds : List D} {v : V} {d : D} (n : Nat), RpA K Z vs ds → Rp K Z v d → RpA K Z (vs.set n v) (ds.set n d)
  | _, _, _, _, _, .nil, _ => .nil
  | _, _, _, _, 0, .cons _ r, q => .cons q r
  | _, _, _, _, n + 1, .cons h r, q => .cons h (RpA.set n r q)
theorem RpA.reverse : ∀ {vs : List V} {ds : List D}, RpA K Z vs ds → RpA K Z vs.reverse ds.reverse
  | _, _, .nil => .nil
  | _, _, .cons h r => by
    rw [List.reverse_cons, List.reverse_cons]
    exact (RpA.reverse r).append (.one h)
theorem RpA.of_map {α : Type} (f : α → V) (g : α → D) (h : ∀ x, Rp K Z (f x) (g x)) : ∀ l : List α, RpA K Z (l.map f) (l.map g)
  | [] => .nil
  | x :: r => .cons (h x) (RpA.of_map f g h r)
end

/-! ### cells -/
inductive Cl where
  | nd (t : Tag) (xs : List D) | draw | dead
abbrev Cl.lst (xs : List D) : Cl := .nd .lst xs
def HoOf (vs : List V) : Tag → HO → Prop
  | .tup, _ => False
  | .ktup, _ => False
  | .lst, o => o = .lst vs
  | .dk ks, o => o = .dK (ks.zip vs) ∧ ks.length = vs.length
  | .dt ks, o => o = .dT (ks.zip vs) ∧ ks.length = vs.length
  | .obj C ns, o => ∃ dx, o = .ins C dx (ns.zip vs) ∧ ns.length = vs.length
theorem HoOf.at {K : PySem.W.Frag} {Z : Hp} {a : Addr} {vs : List V} {o : HO} (h : Z a = some o) : ∀ {t : Tag}, HoOf vs t o → NodeAt K Z a vs t
  | .lst, e => by show Z a = some (.lst vs); rw [h, show o = .lst vs from e]
  | .dk _, e => ⟨by rw [h, e.1], e.2⟩
  | .dt _, e => ⟨by rw [h, e.1], e.2⟩
  | .obj _ _, ⟨dx, e, l⟩ => ⟨dx, by rw [h, e], l⟩
/-- a draw at d: its script at c -/
structure Dr (ns : List Int) (c d : Addr) (H : Hp) : Prop where
  ne : c ≠ d
  cells : H c = some (.lst (ns.map V.int))
  ex : ∃ i n big cnt base : Int, H d = some (.lst [.ref c, .int i, .int big, .int cnt, .int n, .int base]) ∧ 0 ≤ i
def CellOk (K : PySem.W.Frag) (H Z : Hp) (a : Addr) : Cl → Prop
  | .nd t xs => Z a = none ∧ ∃ vs o, H a = some o ∧ HoOf vs t o ∧ RpA K Z vs xs
  | .draw => Z a = none ∧ ∃ c ns, Dr ns c a H ∧ Z c = some (.lst (ns.map V.int))
  | .dead => True
def Cl.live : Cl → Bool
  | .dead => false
  | _ => true
theorem CellOk.some {K : PySem.W.Frag} {H Z : Hp} {a : Addr} : ∀ {c : Cl}, CellOk K H Z a c → c.live = true → H a ≠ none ∧ Z a = none
  | .nd _ _, h, _ => by
    obtain ⟨h1, vs, o, e, _⟩ := h
    rw [e]
    exact ⟨(fun z => nomatch z), h1⟩
  | .draw, h, _ => by
    obtain ⟨h1, c, ns, hd, _⟩ := h
    obtain ⟨i, n, big, cnt, b, e, r⟩ := hd.ex
    rw [e]
    exact ⟨(fun z => nomatch z), h1⟩
  | .dead, _, z => nomatch z
/-- where a def began -/
abbrev Tbs := List (Addr × Str)
structure Ba (T : Tbs) where
  Z : Hp
  θ : List Addr
theorem tabs_upd {T : List (Addr × Str)} {H : Hp} {p : Addr} {o : HO} (t : LamX.Tabs T H) (h : ∀ u, H p = some u → (∀ ps, u ≠ .tbl ps) ∧ ∀ φ, u ≠ .ext φ) : LamX.Tabs T (upd H p o) := fun q hq => by
  obtain ⟨ps, h1, h2, h3⟩ := t q hq
  have n1 : q.1 ≠ p := fun z => (h _ (by rw [← z]; exact h1)).1 _ rfl
  refine ⟨ps, by rw [upd_ne n1]; exact h1, h2, fun pos cv hc => ?_⟩
  obtain ⟨c, e1, e2⟩ := h3 pos cv hc
  have n2 : c ≠ p := fun z => (h _ (by rw [← z]; exact e2)).2 _ rfl
  exact ⟨c, e1, by rw [upd_ne n2]; exact e2⟩
theorem ho_tab {vs : List V} {u : HO} : ∀ {t : Tag}, HoOf vs t u → (∀ ps, u ≠ .tbl ps) ∧ ∀ φ, u ≠ .ext φ
  | .lst, e => by
    have e : u = .lst vs := e
    subst e
    exact ⟨(fun _ z => by cases z), (fun _ z => by cases z)⟩
  | .dk _, ⟨e, _⟩ => by
    subst e
    exact ⟨(fun _ z => by cases z), (fun _ z => by cases z)⟩
  | .dt _, ⟨e, _⟩ => by
    subst e
    exact ⟨(fun _ z => by cases z), (fun _ z => by cases z)⟩
  | .obj _ _, ⟨dx, e, _⟩ => by
    subst e
    exact ⟨(fun _ z => by cases z), (fun _ z => by cases z)⟩
theorem cell_tab {K : PySem.W.Frag} {H Z : Hp} {a : Addr} {u : HO} (hu : H a = some u) : ∀ {c : Cl}, CellOk K H Z a c → c.live = true → (∀ ps, u ≠ .tbl ps) ∧ ∀ φ, u ≠ .ext φ
  | .nd _ _, ⟨_, vs, o, e, k, _⟩, _ => by
    rw [hu] at e
    injection e with e
    subst e
    exact ho_tab k
  | .draw, ⟨_, c, ns, hd, _⟩, _ => by
    obtain ⟨i, n, big, cnt, b, e, r⟩ := hd.ex
    rw [hu] at e
    injection e with e
    subst e
    exact ⟨(fun _ z => by cases z), (fun _ z => by cases z)⟩
  | .dead, _, z => nomatch z
/-- the heap H holds what never changes (Z) and the cells τ at θ -/
structure Rh {T : Tbs} (K : PySem.W.Frag) (ba : Ba T) (τ : List Cl) (H Z : Hp) (θ : List Addr) : Prop where
  ex : Ex Z H
  bz : Ex ba.Z Z
  bt : ba.θ <+: θ
  tabs : LamX.Tabs T H
  ntb : ∀ a ps, Z a ≠ some (.tbl ps)
  len : θ.length = τ.length
  cell : ∀ (n : Nat) (a : Addr) (c : Cl), θ[n]? = some a → τ[n]? = some c → CellOk K H Z a c
  ne : ∀ (m n : Nat) (a b : Addr) (c d : Cl), θ[m]? = some a → θ[n]? = some b → τ[m]? = some c → τ[n]? = some d → c.live = true → d.live = true → m ≠ n → a ≠ b
/-- a slot's value -/
def RpS (K : PySem.W.Frag) (Z : Hp) (θ : List Addr) (v : V) (d : D) : Prop := (∃ (n : Nat) (a : Addr), d = .tk n ∧ θ[n]? = some a ∧ v = .ref a) ∨ Rp K Z v d
structure Rl {T : Tbs} (K : PySem.W.Frag) (ba : Ba T) (ρ : List (Option D)) (τ : List Cl) (σ : L2.St) (H Z : Hp) (θ : List Addr) : Prop extends Rh K ba τ H Z θ where
  sl : σ.length = ρ.length
  at_ : ∀ (i : Nat) (d : D), ρ[i]? = some (some d) → ∃ v, σ[i]? = some (some v) ∧ RpS K Z θ v d
section
variable {K : PySem.W.Frag} {T : Tbs} {ba : Ba T} {Z Z' H H' : Hp} {θ θ' : List Addr} {τ τ' : List Cl} {ρ : List (Option D)} {σ : L2.St} {v : V} {d : D}
theorem pre_at {θ θ' : List Addr} (p : θ <+: θ') {n : Nat} {a : Addr} (h : θ[n]? = some a) : θ'[n]? = some a := by
  obtain ⟨t, rfl⟩ := p
  have hn : n < θ.length := by
    have := List.getElem?_eq_some_iff.mp h
    exact this.1
  rw [List.getElem?_append_left hn]
  exact h
theorem RpS.mono (e : Ex Z Z') (p : θ <+: θ') (h : RpS K Z θ v d) : RpS K Z' θ' v d := by
  rcases h with ⟨n, a, h1, h2, h3⟩ | h
  · exact .inl ⟨n, a, h1, pre_at p h2, h3⟩
  · exact .inr (h.mono e)
theorem RpS.rp (h : RpS K Z θ v d) (n : ∀ n, d ≠ .tk n) : Rp K Z v d := by
  rcases h with ⟨m, a, h1, _⟩ | h
  · exact absurd h1 (n m)
  · exact h
theorem RpS.int {i : Int} (h : RpS K Z θ v (.int i)) : v = .int i := by
  cases h.rp (fun _ z => nomatch z)
  rfl
theorem RpS.bl {b : Bool} (h : RpS K Z θ v (.bl b)) : v = .bl b := by
  cases h.rp (fun _ z => nomatch z)
  rfl
theorem RpS.str {l : List Nat} (h : RpS K Z θ v (.str l)) : v = .str (S l) := by
  cases h.rp (fun _ z => nomatch z)
  rfl
theorem RpS.non (h : RpS K Z θ v .non) : v = .non := by
  cases h.rp (fun _ z => nomatch z)
  rfl
theorem RpS.raw {u : V} (h : RpS K Z θ v (.raw u)) : v = u := by
  cases h.rp (fun _ z => nomatch z)
  rfl
theorem RpS.node {t : Tag} {xs : List D} (h : RpS K Z θ v (.node t xs)) : ∃ a vs, v = .ref a ∧ NodeAt K Z a vs t ∧ RpA K Z vs xs := by
  cases h.rp (fun _ z => nomatch z) with
  | node h r => exact ⟨_, _, rfl, h, r⟩
theorem RpS.tk {n : Nat} (h : RpS K Z θ v (.tk n)) : ∃ a, v = .ref a ∧ θ[n]? = some a := by
  rcases h with ⟨m, a, h1, h2, h3⟩ | h
  · injection h1 with h1
    subst h1
    exact ⟨a, h3, h2⟩
  · cases h
theorem Rl.rh (h : Rl K ba ρ τ σ H Z θ) : Rh K ba τ H Z θ := h.toRh
/-- the same slots over another heap -/
theorem Rl.with (h : Rl K ba ρ τ σ H Z θ) (r : Rh K ba τ' H' Z' θ') (e : Ex Z Z') (p : θ <+: θ') : Rl K ba ρ τ' σ H' Z' θ' :=
  ⟨r, h.sl, fun i d q => by
    obtain ⟨v, h1, h2⟩ := h.at_ i d q
    exact ⟨v, h1, h2.mono e p⟩⟩
theorem Rl.set (h : Rl K ba ρ τ σ H Z θ) (r : RpS K Z θ v d) (i : Nat) : Rl K ba (ρ.set i (some d)) τ (σ.set i (some v)) H Z θ :=
  ⟨h.rh, by rw [List.length_set, List.length_set]; exact h.sl, fun j e q => by
    by_cases hij : i = j
    · subst hij
      have hi : i < ρ.length := by
        have := List.getElem?_eq_some_iff.mp q
        have := this.1
        rwa [List.length_set] at this
      rw [List.getElem?_set_self hi] at q
      have q : d = e := by simpa using q
      subst q
      exact ⟨v, by rw [List.getElem?_set_self (by rw [h.sl]; exact hi)], r⟩
    · rw [List.getElem?_set_ne hij] at q
      obtain ⟨u, h1, h2⟩ := h.at_ j e q
      exact ⟨u, by rw [List.getElem?_set_ne hij]; exact h1, h2⟩⟩
theorem Rl.unset (h : Rl K ba ρ τ σ H Z θ) (i : Nat) : Rl K ba (ρ.set i none) τ (σ.set i none) H Z θ :=
  ⟨h.rh, by rw [List.length_set, List.length_set]; exact h.sl, fun j e q => by
    by_cases hij : i = j
    · subst hij
      by_cases hi : i < ρ.length
      · rw [List.getElem?_set_self hi] at q
        simp at q
      · rw [List.getElem?_eq_none (by rw [List.length_set]; omega)] at q
        cases q
    · rw [List.getElem?_set_ne hij] at q
      obtain ⟨u, h1, h2⟩ := h.at_ j e q
      exact ⟨u, by rw [List.getElem?_set_ne hij]; exact h1, h2⟩⟩
theorem ntb_upd {Z : Hp} {p : Addr} {o : HO} (h : ∀ a ps, Z a ≠ some (.tbl ps)) (hn : ∀ ps, o ≠ .tbl ps) : ∀ a ps, upd Z p o a ≠ some (.tbl ps) := fun a ps z => by
  by_cases e : a = p
  · subst e
    rw [upd_same] at z
    exact hn ps (Option.some.inj z)
  · rw [upd_ne e] at z
    exact h a ps z
/-- a new thing that never changes -/
theorem Rh.lay (h : Rh K ba τ H Z θ) {p : Addr} {o : HO} (hp : H p = none) (hn : ∀ ps, o ≠ .tbl ps := by nofun) : Rh K ba τ (upd H p o) (upd Z p o) θ ∧ Ex Z (upd Z p o) := by
  have zp : Z p = none := Evl.fresh_back h.ex hp
  have e : Ex Z (upd Z p o) := Evl.Ex.new zp
  refine ⟨⟨fun a u ha => ?_, h.bz.trans e, h.bt, tabs_upd h.tabs fun u hu => (by rw [hp] at hu; cases hu), ntb_upd h.ntb hn, h.len, fun n a c ha hc => ?_, h.ne⟩, e⟩
  · by_cases hap : a = p
    · subst hap
      rw [upd_same] at ha
      rw [upd_same]
      exact ha
    · rw [upd_ne hap] at ha
      rw [upd_ne hap]
      exact h.ex a u ha
  · have k := h.cell n a c ha hc
    cases c with
    | dead => trivial
    | draw =>
      obtain ⟨za, c, ns, hd, zc⟩ := k
      obtain ⟨i, m, big, cnt, b, he, r⟩ := hd.ex
      have n1 : a ≠ p := ne_of_none he hp
      have n2 : c ≠ p := ne_of_none hd.cells hp
      exact ⟨by rw [upd_ne n1]; exact za, c, ns, ⟨hd.ne, by rw [upd_ne n2]; exact hd.cells, i, m, big, cnt, b, by rw [upd_ne n1]; exact he, r⟩, by rw [upd_ne n2]; exact zc⟩
    | nd t xs =>
      obtain ⟨za, vs, u, hu, hk, hr⟩ := k
      have n1 : a ≠ p := ne_of_none hu hp
      exact ⟨by rw [upd_ne n1]; exact za, vs, u, by rw [upd_ne n1]; exact hu, hk, hr.mono e⟩
/-- a new cell -/
theorem Rh.cellNew (h : Rh K ba τ H Z θ) {p : Addr} {o : HO} {t : Tag} {vs : List V} {xs : List D} (hp : H p = none) (ho : HoOf vs t o) (r : RpA K Z vs xs) : Rh K ba (τ ++ [.nd t xs]) (upd H p o) Z (θ ++ [p]) := by
  have zp : Z p = none := Evl.fresh_back h.ex hp
  have hex : Ex Z (upd H p o) := fun a u ha => by
    rw [upd_ne (ne_of_none ha zp)]
    exact h.ex a u ha
  have old : ∀ n a c, θ[n]? = some a → τ[n]? = some c → CellOk K (upd H p o) Z a c := fun n a c ha hc => by
    have k := h.cell n a c ha hc
    cases c with
    | dead => trivial
    | draw =>
      obtain ⟨za, c, ns, hd, zc⟩ := k
      obtain ⟨i, m, big, cnt, b, he, r⟩ := hd.ex
      have n1 : a ≠ p := ne_of_none he hp
      have n2 : c ≠ p := ne_of_none hd.cells hp
      exact ⟨za, c, ns, ⟨hd.ne, by rw [upd_ne n2]; exact hd.cells, i, m, big, cnt, b, by rw [upd_ne n1]; exact he, r⟩, zc⟩
    | nd t xs =>
      obtain ⟨za, vs, u, hu, hk, hr⟩ := k
      have n1 : a ≠ p := ne_of_none hu hp
      exact ⟨za, vs, u, by rw [upd_ne n1]; exact hu, hk, hr⟩
  have spl : ∀ n a c, (θ ++ [p])[n]? = some a → (τ ++ [.nd t xs])[n]? = some c → (n < θ.length ∧ θ[n]? = some a ∧ τ[n]? = some c) ∨ (n = θ.length ∧ a = p ∧ c = .nd t xs) := fun n a c ha hc => by
    by_cases hn : n < θ.length
    · rw [List.getElem?_append_left hn] at ha
      rw [List.getElem?_append_left (by rw [← h.len]; exact hn)] at hc
      exact .inl ⟨hn, ha, hc⟩
    · by_cases he : n = θ.length
      · subst he
        rw [List.getElem?_append_right (Nat.le_refl _)] at ha
        rw [h.len, List.getElem?_append_right (Nat.le_refl _)] at hc
        simp at ha hc
        exact .inr ⟨rfl, ha.symm, hc.symm⟩
      · rw [List.getElem?_eq_none (by rw [List.length_append, List.length_singleton]; omega)] at ha
        cases ha
  refine ⟨hex, h.bz, h.bt.trans (List.prefix_append _ _), tabs_upd h.tabs fun u hu => (by rw [hp] at hu; cases hu), h.ntb, by rw [List.length_append, List.length_append, h.len]; rfl, fun n a c ha hc => ?_, fun m n a b c d ha hb hc hd lc ld hne => ?_⟩
  · rcases spl n a c ha hc with ⟨_, h1, h2⟩ | ⟨_, rfl, rfl⟩
    · exact old n a c h1 h2
    · exact ⟨zp, vs, o, upd_same, ho, r⟩
  · rcases spl m a c ha hc with ⟨_, h1, h2⟩ | ⟨e1, h1, h2⟩
    · rcases spl n b d hb hd with ⟨_, h3, h4⟩ | ⟨e2, h3, h4⟩
      · exact h.ne m n a b c d h1 h3 h2 h4 lc ld hne
      · intro z
        have := (CellOk.some (h.cell m a c h1 h2) lc).1
        rw [z, h3] at this
        exact this hp
    · rcases spl n b d hb hd with ⟨_, h3, h4⟩ | ⟨e2, h3, h4⟩
      · intro z
        have := (CellOk.some (h.cell n b d h3 h4) ld).1
        rw [← z, h1] at this
        exact this hp
      · exact absurd (e1.trans e2.symm) hne
theorem get_set {α : Type} {l : List α} {n m : Nat} {x y : α} (h : (l.set n x)[m]? = some y) : (m = n ∧ y = x ∧ n < l.length) ∨ (m ≠ n ∧ l[m]? = some y) := by
  by_cases e : n = m
  · subst e
    have hi : n < l.length := by
      have := (List.getElem?_eq_some_iff.mp h).1
      rwa [List.length_set] at this
    rw [List.getElem?_set_self hi] at h
    exact .inl ⟨rfl, by simpa using h.symm, hi⟩
  · rw [List.getElem?_set_ne e] at h
    exact .inr ⟨fun z => e z.symm, h⟩
/-- a cell is changed -/
theorem Rh.cellSet (h : Rh K ba τ H Z θ) {n : Nat} {p : Addr} {o : HO} {t : Tag} {vs : List V} {xs : List D} {c : Cl} (hn : τ[n]? = some c) (lc : c.live = true) (hp : θ[n]? = some p) (ho : HoOf vs t o) (r : RpA K Z vs xs) :
    Rh K ba (τ.set n (.nd t xs)) (upd H p o) Z θ := by
  have zp : Z p = none := (CellOk.some (h.cell n p c hp hn) lc).2
  have hex : Ex Z (upd H p o) := fun a u ha => by
    rw [upd_ne (ne_of_none ha zp)]
    exact h.ex a u ha
  refine ⟨hex, h.bz, h.bt, tabs_upd h.tabs fun u hu => cell_tab hu (h.cell n p c hp hn) lc, h.ntb, by rw [List.length_set]; exact h.len, fun m a d ha hd => ?_, fun m k a b d e ha hb hd he ld le hne => ?_⟩
  · rcases get_set hd with ⟨rfl, rfl, _⟩ | ⟨hmn, hd'⟩
    · rw [hp] at ha
      injection ha with ha
      subst ha
      exact ⟨zp, vs, o, upd_same, ho, r⟩
    · have k := h.cell m a d ha hd'
      cases hl : d.live with
      | false =>
        cases d with
        | dead => trivial
        | draw => cases hl
        | nd _ _ => cases hl
      | true =>
        have n1 : a ≠ p := h.ne m n a p d c ha hp hd' hn hl lc hmn
        cases d with
        | dead => trivial
        | draw =>
          obtain ⟨za, c', ns, hdr, zc⟩ := k
          obtain ⟨i, q, big, cnt, b, he, r'⟩ := hdr.ex
          have n2 : c' ≠ p := ne_of_none zc zp
          exact ⟨za, c', ns, ⟨hdr.ne, by rw [upd_ne n2]; exact hdr.cells, i, q, big, cnt, b, by rw [upd_ne n1]; exact he, r'⟩, zc⟩
        | nd t' xs' =>
          obtain ⟨za, vs', u, hu, hk, hr⟩ := k
          exact ⟨za, vs', u, by rw [upd_ne n1]; exact hu, hk, hr⟩
  · have liv : ∀ (m : Nat) (d : Cl), (τ.set n (.nd t xs))[m]? = some d → d.live = true → ∃ d' : Cl, τ[m]? = some d' ∧ d'.live = true := fun m d hd ld => by
      rcases get_set hd with ⟨rfl, rfl, _⟩ | ⟨_, hd'⟩
      · exact ⟨c, hn, lc⟩
      · exact ⟨d, hd', ld⟩
    obtain ⟨d1, g1, g2⟩ := liv m d hd ld
    obtain ⟨e1, g3, g4⟩ := liv k e he le
    exact h.ne m k a b d1 e1 ha hb g1 g3 g2 g4 hne
/-- a cell is closed: what it holds never changes any more -/
theorem Rh.freeze (h : Rh K ba τ H Z θ) {n : Nat} {p : Addr} {t : Tag} {xs : List D} (hn : τ[n]? = some (.nd t xs)) (hp : θ[n]? = some p) :
    ∃ Z', Rh K ba (τ.set n .dead) H Z' θ ∧ Ex Z Z' ∧ Rp K Z' (.ref p) (.node t xs) ∧ ∀ a, a ≠ p → Z' a = Z a := by
  obtain ⟨zp, vs, o, hu, hk, hr⟩ := h.cell n p _ hp hn
  have e : Ex Z (upd Z p o) := Evl.Ex.new zp
  refine ⟨upd Z p o, ⟨fun a u ha => ?_, h.bz.trans e, h.bt, h.tabs, ntb_upd h.ntb (ho_tab hk).1, by rw [List.length_set]; exact h.len, fun m a d ha hd => ?_, fun m k a b d e ha hb hd he ld le hne => ?_⟩, e, .node (HoOf.at upd_same hk) (hr.mono e), fun a ha => upd_ne ha⟩
  · by_cases hap : a = p
    · subst hap
      rw [upd_same] at ha
      rw [hu]
      exact ha
    · rw [upd_ne hap] at ha
      exact h.ex a u ha
  · rcases get_set hd with ⟨rfl, rfl, _⟩ | ⟨hmn, hd'⟩
    · trivial
    · have k := h.cell m a d ha hd'
      cases hl : d.live with
      | false =>
        cases d with
        | dead => trivial
        | draw => cases hl
        | nd _ _ => cases hl
      | true =>
        have n1 : a ≠ p := h.ne m n a p d _ ha hp hd' hn hl rfl hmn
        cases d with
        | dead => trivial
        | draw =>
          obtain ⟨za, c', ns, hdr, zc⟩ := k
          exact ⟨by rw [upd_ne n1]; exact za, c', ns, hdr, e _ _ zc⟩
        | nd t' xs' =>
          obtain ⟨za, vs', u, hu, hk, hr⟩ := k
          exact ⟨by rw [upd_ne n1]; exact za, vs', u, hu, hk, hr.mono e⟩
  · have liv : ∀ (m : Nat) (d : Cl), (τ.set n .dead)[m]? = some d → d.live = true → τ[m]? = some d := fun m d hd ld => by
      rcases get_set hd with ⟨rfl, rfl, _⟩ | ⟨_, hd'⟩
      · cases ld
      · exact hd'
    exact h.ne m k a b d e ha hb (liv m d hd ld) (liv k e he le) ld le hne
/-- some cells at the end are left -/
theorem Rh.drop {ex : List Cl} (h : Rh K ba (τ ++ ex) H Z θ') (hb : ba.θ.length ≤ τ.length) : Rh K ba τ H Z (θ'.take τ.length) := by
  have hl : τ.length ≤ θ'.length := by
    have := h.len
    rw [List.length_append] at this
    omega
  have inp : ∀ n a, (θ'.take τ.length)[n]? = some a → θ'[n]? = some a := fun n a ha => by
    rw [List.getElem?_take] at ha
    split at ha
    · exact ha
    · cases ha
  have int : ∀ n c, τ[n]? = some c → (τ ++ ex)[n]? = some c := fun n c hc => by
    rw [List.getElem?_append_left (List.getElem?_eq_some_iff.mp hc).1]
    exact hc
  refine ⟨h.ex, h.bz, List.prefix_take_iff.mpr ⟨h.bt, hb⟩, h.tabs, h.ntb, by rw [List.length_take]; omega, fun n a c ha hc => h.cell n a c (inp n a ha) (int n c hc), fun m n a b c d ha hb hc hd => h.ne m n a b c d (inp m a ha) (inp n b hb) (int m c hc) (int n d hd)⟩
end
end Pu

set_option Elab.async false
set_option linter.all false
set_option maxRecDepth 100000
set_option maxHeartbeats 4000000
namespace Pu
open PySem PySem.Spec PyProof.Rows L2 Fg
abbrev Rho := List (Option D)
abbrev Tau := List Cl
abbrev DK := D → Tau → Prop
inductive RpSA (K : PySem.W.Frag) (Z : Hp) (θ : List Addr) : List V → List D → Prop
  | nil : RpSA K Z θ [] []
  | cons {v : V} {d : D} {vs : List V} {ds : List D} : RpS K Z θ v d → RpSA K Z θ vs ds → RpSA K Z θ (v :: vs) (d :: ds)
theorem RpSA.mono {K : PySem.W.Frag} {Z Z' : Hp} {θ θ' : List Addr} (e : Ex Z Z') (p : θ <+: θ') : ∀ {vs : List V} {ds : List D}, RpSA K Z θ vs ds → RpSA K Z' θ' vs ds
  | _, _, .nil => .nil
  | _, _, .cons h r => .cons (h.mono e p) (RpSA.mono e p r)
theorem RpSA.length {K : PySem.W.Frag} {Z : Hp} {θ : List Addr} : ∀ {vs : List V} {ds : List D}, RpSA K Z θ vs ds → vs.length = ds.length
  | _, _, .nil => rfl
  | _, _, .cons _ r => congrArg (· + 1) (RpSA.length r)
/-- no cell among them -/
def notk : List D → Bool
  | [] => true
  | .tk _ :: _ => false
  | _ :: r => notk r
theorem RpSA.rp {K : PySem.W.Frag} {Z : Hp} {θ : List Addr} : ∀ {vs : List V} {ds : List D}, RpSA K Z θ vs ds → notk ds = true → RpA K Z vs ds
  | _, _, .nil, _ => .nil
  | _, d :: ds, .cons h r, n => by
    have hd : (∀ m, d ≠ .tk m) ∧ notk ds = true := by
      cases d with
      | tk m => cases n
      | _ => exact ⟨(fun _ z => nomatch z), n⟩
    exact .cons (h.rp hd.1) (RpSA.rp r hd.2)
theorem Ex.rfl' {H : Hp} : Ex H H := Evl.Ex.refl H
theorem pre_rfl {θ : List Addr} : θ <+: θ := List.prefix_refl θ

/-- what is wanted of a value and of what comes with it -/
def Co {T : Tbs} (K : PySem.W.Frag) (ba : Ba T) (Z : Hp) (θ : List Addr) (Q : DK) (R : VK) : Prop := ∀ v H' Z' θ' d τ', Rh K ba τ' H' Z' θ' → Ex Z Z' → θ <+: θ' → RpS K Z' θ' v d → Q d τ' → R v H'
theorem Co.step {K : PySem.W.Frag} {T : Tbs} {ba : Ba T} {Z Z' : Hp} {θ θ' : List Addr} {Q : DK} {R : VK} (c : Co K ba Z θ Q R) (e : Ex Z Z') (p : θ <+: θ') : Co K ba Z' θ' Q R :=
  fun v H2 Z2 θ2 d τ2 r e2 p2 h q => c v H2 Z2 θ2 d τ2 r (e.trans e2) (p.trans p2) h q
def CoT {T : Tbs} (K : PySem.W.Frag) (ba : Ba T) (Z : Hp) (θ : List Addr) (Q : Bool → Tau → Prop) (R : Bool → Hp → Prop) : Prop := ∀ b H' Z' θ' τ', Rh K ba τ' H' Z' θ' → Ex Z Z' → θ <+: θ' → Q b τ' → R b H'
theorem CoT.step {K : PySem.W.Frag} {T : Tbs} {ba : Ba T} {Z Z' : Hp} {θ θ' : List Addr} {Q : Bool → Tau → Prop} {R : Bool → Hp → Prop} (c : CoT K ba Z θ Q R) (e : Ex Z Z') (p : θ <+: θ') : CoT K ba Z' θ' Q R :=
  fun b H2 Z2 θ2 τ2 r e2 p2 q => c b H2 Z2 θ2 τ2 r (e.trans e2) (p.trans p2) q
def CoA {T : Tbs} (K : PySem.W.Frag) (ba : Ba T) (Z : Hp) (θ : List Addr) (Q : List D → Tau → Prop) (R : List V → Hp → Prop) : Prop := ∀ vs H' Z' θ' ds τ', Rh K ba τ' H' Z' θ' → Ex Z Z' → θ <+: θ' → RpSA K Z' θ' vs ds → Q ds τ' → R vs H'
def CoO {T : Tbs} (K : PySem.W.Frag) (ba : Ba T) (Z : Hp) (θ : List Addr) (Q : Option Int → Tau → Prop) (R : Option Int → Hp → Prop) : Prop := ∀ o H' Z' θ' τ', Rh K ba τ' H' Z' θ' → Ex Z Z' → θ <+: θ' → Q o τ' → R o H'
def WE {T : Tbs} (K : PySem.W.Frag) (ba : Ba T) (te : TE) (ρ : Rho) (τ : Tau) (Q : DK) : Prop := ∀ σ H Z θ (R : VK), Rl K ba ρ τ σ H Z θ → Co K ba Z θ Q R → te σ H R
def WT {T : Tbs} (K : PySem.W.Frag) (ba : Ba T) (tt : TT) (ρ : Rho) (τ : Tau) (Q : Bool → Tau → Prop) : Prop := ∀ σ H Z θ (R : Bool → Hp → Prop), Rl K ba ρ τ σ H Z θ → CoT K ba Z θ Q R → tt σ H R
def WA {T : Tbs} (K : PySem.W.Frag) (ba : Ba T) (ta : TA) (ρ : Rho) (τ : Tau) (Q : List D → Tau → Prop) : Prop := ∀ σ H Z θ (R : List V → Hp → Prop), Rl K ba ρ τ σ H Z θ → CoA K ba Z θ Q R → ta σ H R
def WO {T : Tbs} (K : PySem.W.Frag) (ba : Ba T) (to : TO) (ρ : Rho) (τ : Tau) (Q : Option Int → Tau → Prop) : Prop := ∀ σ H Z θ (R : Option Int → Hp → Prop), Rl K ba ρ τ σ H Z θ → CoO K ba Z θ Q R → to σ H R
/-- operations on values -/
def RD {T : Tbs} (K : PySem.W.Frag) (ba : Ba T) (r : R2) (x y : D) (τ : Tau) (Q : DK) : Prop := ∀ v u H Z θ R, Rh K ba τ H Z θ → RpS K Z θ v x → RpS K Z θ u y → Co K ba Z θ Q R → r v u H R
def RU {T : Tbs} (K : PySem.W.Frag) (ba : Ba T) (r : V → Hp → VK → Prop) (x : D) (τ : Tau) (Q : DK) : Prop := ∀ v H Z θ R, Rh K ba τ H Z θ → RpS K Z θ v x → Co K ba Z θ Q R → r v H R
def RC {T : Tbs} (K : PySem.W.Frag) (ba : Ba T) (r : List V → Hp → VK → Prop) (xs : List D) (τ : Tau) (Q : DK) : Prop := ∀ vs H Z θ R, Rh K ba τ H Z θ → RpSA K Z θ vs xs → Co K ba Z θ Q R → r vs H R
def RM {T : Tbs} (K : PySem.W.Frag) (ba : Ba T) (r : V → List V → Hp → VK → Prop) (x : D) (xs : List D) (τ : Tau) (Q : DK) : Prop := ∀ v vs H Z θ R, Rh K ba τ H Z θ → RpS K Z θ v x → RpSA K Z θ vs xs → Co K ba Z θ Q R → r v vs H R

structure En where
  nx : Rho → Tau → Prop
  rt : DK
  bk : Rho → Tau → Prop := fun _ _ => False
  ct : Rho → Tau → Prop := fun _ _ => False
def CoS {T : Tbs} (K : PySem.W.Frag) (ba : Ba T) (Z : Hp) (θ : List Addr) (Q : Rho → Tau → Prop) (R : L2.St → Hp → Prop) : Prop := ∀ ρ' τ' σ' H' Z' θ', Rl K ba ρ' τ' σ' H' Z' θ' → Ex Z Z' → θ <+: θ' → Q ρ' τ' → R σ' H'
theorem CoS.step {K : PySem.W.Frag} {T : Tbs} {ba : Ba T} {Z Z' : Hp} {θ θ' : List Addr} {Q : Rho → Tau → Prop} {R : L2.St → Hp → Prop} (c : CoS K ba Z θ Q R) (e : Ex Z Z') (p : θ <+: θ') : CoS K ba Z' θ' Q R :=
  fun ρ2 τ2 σ2 H2 Z2 θ2 r e2 p2 q => c ρ2 τ2 σ2 H2 Z2 θ2 r (e.trans e2) (p.trans p2) q
structure Fit {T : Tbs} (K : PySem.W.Frag) (ba : Ba T) (Z : Hp) (θ : List Addr) (P : En) (De : Ends) : Prop where
  nx : CoS K ba Z θ P.nx De.nx
  rt : Co K ba Z θ P.rt De.rt
  bk : CoS K ba Z θ P.bk De.bk
  ct : CoS K ba Z θ P.ct De.ct
theorem Fit.step {K : PySem.W.Frag} {T : Tbs} {ba : Ba T} {Z Z' : Hp} {θ θ' : List Addr} {P : En} {De : Ends} (c : Fit K ba Z θ P De) (e : Ex Z Z') (p : θ <+: θ') : Fit K ba Z' θ' P De :=
  ⟨c.nx.step e p, c.rt.step e p, c.bk.step e p, c.ct.step e p⟩
def WS {T : Tbs} (K : PySem.W.Frag) (ba : Ba T) (ts : TS) (ρ : Rho) (τ : Tau) (P : En) : Prop := ∀ σ H Z θ De, Rl K ba ρ τ σ H Z θ → Fit K ba Z θ P De → ts De σ H
def WG {T : Tbs} (K : PySem.W.Frag) (ba : Ba T) (g : TG) (x : D) (ρ : Rho) (τ : Tau) (Q : Rho → Tau → Prop) : Prop := ∀ v σ H Z θ R, Rl K ba ρ τ σ H Z θ → RpS K Z θ v x → CoS K ba Z θ Q R → g v σ H R
def WGs {T : Tbs} (K : PySem.W.Frag) (ba : Ba T) (g : TGs) (xs : List D) (ρ : Rho) (τ : Tau) (Q : Rho → Tau → Prop) : Prop := ∀ vs σ H Z θ R, Rl K ba ρ τ σ H Z θ → RpSA K Z θ vs xs → CoS K ba Z θ Q R → g vs σ H R

section
variable {K : PySem.W.Frag} {T : Tbs} {ba : Ba T} {ρ : Rho} {τ : Tau} {Q : DK} {P : En} {ta tb tc te : TE} {t u : TS} {c d : TT} {tl : TA} {i : Nat} {x y : D} {r : R2}
theorem w_seq (q : WS K ba t ρ τ { P with nx := fun ρ' τ' => WS K ba u ρ' τ' P }) : WS K ba (tSeq t u) ρ τ P := fun σ H Z θ De I F =>
  q σ H Z θ _ I ⟨fun ρ' τ' σ' H' Z' θ' I' e p q' => q' σ' H' Z' θ' De I' (F.step e p), F.rt, F.bk, F.ct⟩
theorem w_next (q : P.nx ρ τ) : WS K ba tNext ρ τ P := fun σ H Z θ De I F => F.nx ρ τ σ H Z θ I Ex.rfl' pre_rfl q
theorem w_break (q : P.bk ρ τ) : WS K ba tBreak ρ τ P := fun σ H Z θ De I F => F.bk ρ τ σ H Z θ I Ex.rfl' pre_rfl q
theorem w_cont (q : P.ct ρ τ) : WS K ba tCont ρ τ P := fun σ H Z θ De I F => F.ct ρ τ σ H Z θ I Ex.rfl' pre_rfl q
theorem w_asg {g : TG} (q : WE K ba te ρ τ fun x τ1 => WG K ba g x ρ τ1 P.nx) : WS K ba (tAsg te g) ρ τ P := fun σ H Z θ De I F =>
  q σ H Z θ _ I fun v H1 Z1 θ1 d τ1 r1 e1 p1 h1 q1 => q1 v σ H1 Z1 θ1 _ (I.with r1 e1 p1) h1 (F.nx.step e1 p1)
theorem w_gname {Q : Rho → Tau → Prop} (q : Q (ρ.set i (some x)) τ) : WG K ba (gName i) x ρ τ Q := fun v σ H Z θ R I h k => k _ _ _ _ _ _ (I.set h i) Ex.rfl' pre_rfl q
theorem w_ret (q : WE K ba te ρ τ P.rt) : WS K ba (tRet te) ρ τ P := fun σ H Z θ De I F => q σ H Z θ _ I F.rt
theorem w_retN (q : P.rt .non τ) : WS K ba tRetN ρ τ P := fun σ H Z θ De I F => F.rt _ _ _ _ _ _ I.rh Ex.rfl' pre_rfl (.inr .non) q
theorem w_drop (q : WE K ba te ρ τ fun _ τ1 => P.nx ρ τ1) : WS K ba (tDrop te) ρ τ P := fun σ H Z θ De I F =>
  q σ H Z θ _ I fun v H1 Z1 θ1 d τ1 r1 e1 p1 h1 q1 => F.nx _ _ _ _ _ _ (I.with r1 e1 p1) e1 p1 q1
theorem w_ifS (q : WT K ba c ρ τ fun b τ1 => if b = true then WS K ba t ρ τ1 P else WS K ba u ρ τ1 P) : WS K ba (tIfS c t u) ρ τ P := fun σ H Z θ De I F =>
  q σ H Z θ _ I fun b H1 Z1 θ1 τ1 r1 e1 p1 q1 => by
    cases b with
    | true => exact q1 σ H1 Z1 θ1 De (I.with r1 e1 p1) (F.step e1 p1)
    | false => exact q1 σ H1 Z1 θ1 De (I.with r1 e1 p1) (F.step e1 p1)
theorem w_if (q : WT K ba c ρ τ fun b τ1 => if b = true then WE K ba ta ρ τ1 Q else WE K ba tb ρ τ1 Q) : WE K ba (tIf c ta tb) ρ τ Q := fun σ H Z θ R I k =>
  q σ H Z θ _ I fun b H1 Z1 θ1 τ1 r1 e1 p1 q1 => by
    cases b with
    | true => exact q1 σ H1 Z1 θ1 R (I.with r1 e1 p1) (k.step e1 p1)
    | false => exact q1 σ H1 Z1 θ1 R (I.with r1 e1 p1) (k.step e1 p1)
theorem w_par {j : Nat} (q : WA K ba tl ρ τ fun ds τ1 => ∃ a b, ds = [a, b] ∧ P.nx ((ρ.set i (some a)).set j (some b)) τ1) : WS K ba (tPar i j tl) ρ τ P := fun σ H Z θ De I F =>
  q σ H Z θ _ I fun vs H1 Z1 θ1 ds τ1 r1 e1 p1 h1 q1 => by
    obtain ⟨a, b, rfl, q1⟩ := q1
    cases h1 with
    | cons ha h1 =>
      cases h1 with
      | cons hb h1 =>
        cases h1
        exact ⟨_, _, rfl, F.nx _ _ _ _ _ _ (((I.with r1 e1 p1).set ha i).set hb j) e1 p1 q1⟩
theorem w_test {Q : Bool → Tau → Prop} (q : WE K ba te ρ τ fun x τ1 => ∃ k, x = .bl k ∧ Q k τ1) : WT K ba (tTest te) ρ τ Q := fun σ H Z θ R I k =>
  q σ H Z θ _ I fun v H1 Z1 θ1 d τ1 r1 e1 p1 h1 ⟨b, hb, q1⟩ => by
    subst hb
    exact ⟨b, h1.bl, k _ _ _ _ _ r1 e1 p1 q1⟩
theorem w_tB {Q : Bool → Tau → Prop} (q : WE K ba te ρ τ fun x τ1 => ∃ k, x = .bl k ∧ Q k τ1) : WT K ba (tB te) ρ τ Q := fun σ H Z θ R I k =>
  q σ H Z θ _ I fun v H1 Z1 θ1 d τ1 r1 e1 p1 h1 ⟨b, hb, q1⟩ => by
    subst hb
    exact ⟨b, h1.bl, k _ _ _ _ _ r1 e1 p1 q1⟩
theorem w_not {Q : Bool → Tau → Prop} (q : WT K ba c ρ τ fun b τ1 => Q (!b) τ1) : WT K ba (tNot c) ρ τ Q := fun σ H Z θ R I k =>
  q σ H Z θ _ I fun b H1 Z1 θ1 τ1 r1 e1 p1 q1 => k _ _ _ _ _ r1 e1 p1 q1
theorem w_and {Q : Bool → Tau → Prop} (q : WT K ba c ρ τ fun b τ1 => if b = true then WT K ba d ρ τ1 Q else Q false τ1) : WT K ba (tAnd c d) ρ τ Q := fun σ H Z θ R I k =>
  q σ H Z θ _ I fun b H1 Z1 θ1 τ1 r1 e1 p1 q1 => by
    cases b with
    | true => exact q1 σ H1 Z1 θ1 R (I.with r1 e1 p1) (k.step e1 p1)
    | false => exact k _ _ _ _ _ r1 e1 p1 q1
theorem w_or {Q : Bool → Tau → Prop} (q : WT K ba c ρ τ fun b τ1 => if b = true then Q true τ1 else WT K ba d ρ τ1 Q) : WT K ba (tOr c d) ρ τ Q := fun σ H Z θ R I k =>
  q σ H Z θ _ I fun b H1 Z1 θ1 τ1 r1 e1 p1 q1 => by
    cases b with
    | true => exact k _ _ _ _ _ r1 e1 p1 q1
    | false => exact q1 σ H1 Z1 θ1 R (I.with r1 e1 p1) (k.step e1 p1)
theorem w_andV (q : WE K ba ta ρ τ fun x τ1 => ∃ b, x = .bl b ∧ if b = true then WE K ba tb ρ τ1 Q else Q (.bl false) τ1) : WE K ba (tAndV ta tb) ρ τ Q := fun σ H Z θ R I k =>
  q σ H Z θ _ I fun v H1 Z1 θ1 d τ1 r1 e1 p1 h1 ⟨b, hb, q1⟩ => by
    subst hb
    refine ⟨b, h1.bl, ?_⟩
    cases b with
    | true => exact q1 σ H1 Z1 θ1 R (I.with r1 e1 p1) (k.step e1 p1)
    | false => exact k _ _ _ _ _ _ r1 e1 p1 (.inr (.bl _)) q1
theorem w_orV (q : WE K ba ta ρ τ fun x τ1 => ∃ b, x = .bl b ∧ if b = true then Q (.bl true) τ1 else WE K ba tb ρ τ1 Q) : WE K ba (tOrV ta tb) ρ τ Q := fun σ H Z θ R I k =>
  q σ H Z θ _ I fun v H1 Z1 θ1 d τ1 r1 e1 p1 h1 ⟨b, hb, q1⟩ => by
    subst hb
    refine ⟨b, h1.bl, ?_⟩
    cases b with
    | true => exact k _ _ _ _ _ _ r1 e1 p1 (.inr (.bl _)) q1
    | false => exact q1 σ H1 Z1 θ1 R (I.with r1 e1 p1) (k.step e1 p1)
theorem w_notV (q : WE K ba ta ρ τ fun x τ1 => ∃ b, x = .bl b ∧ Q (.bl (!b)) τ1) : WE K ba (tNotV ta) ρ τ Q := fun σ H Z θ R I k =>
  q σ H Z θ _ I fun v H1 Z1 θ1 d τ1 r1 e1 p1 h1 ⟨b, hb, q1⟩ => by
    subst hb
    exact ⟨b, h1.bl, k _ _ _ _ _ _ r1 e1 p1 (.inr (.bl _)) q1⟩
theorem w_nil {Q : List D → Tau → Prop} (q : Q [] τ) : WA K ba tNil ρ τ Q := fun σ H Z θ R I k => k _ _ _ _ _ _ I.rh Ex.rfl' pre_rfl .nil q
theorem w_cons {Q : List D → Tau → Prop} (q : WE K ba ta ρ τ fun x τ1 => WA K ba tl ρ τ1 fun xs τ2 => Q (x :: xs) τ2) : WA K ba (tCons ta tl) ρ τ Q := fun σ H Z θ R I k =>
  q σ H Z θ _ I fun v H1 Z1 θ1 d τ1 r1 e1 p1 h1 q1 => q1 σ H1 Z1 θ1 _ (I.with r1 e1 p1) fun vs H2 Z2 θ2 ds τ2 r2 e2 p2 h2 q2 =>
    k _ _ _ _ _ _ r2 (e1.trans e2) (p1.trans p2) (.cons (h1.mono e2 p2) h2) q2
theorem w_cb {r : List V → Hp → VK → Prop} (q : WA K ba tl ρ τ fun ds τ1 => RC K ba r ds τ1 Q) : WE K ba (tCB r tl) ρ τ Q := fun σ H Z θ R I k =>
  q σ H Z θ _ I fun vs H1 Z1 θ1 ds τ1 r1 e1 p1 h1 q1 => q1 vs H1 Z1 θ1 R r1 h1 (k.step e1 p1)
theorem w_op (q : WE K ba ta ρ τ fun x τ1 => WE K ba tb ρ τ1 fun y τ2 => RD K ba r x y τ2 Q) : WE K ba (tOp r ta tb) ρ τ Q := fun σ H Z θ R I k =>
  q σ H Z θ _ I fun v H1 Z1 θ1 d τ1 r1 e1 p1 h1 q1 => q1 σ H1 Z1 θ1 _ (I.with r1 e1 p1) fun v2 H2 Z2 θ2 d2 τ2 r2 e2 p2 h2 q2 =>
    q2 v v2 H2 Z2 θ2 R r2 (h1.mono e2 p2) h2 ((k.step e1 p1).step e2 p2)
theorem w_un {r : V → Hp → VK → Prop} (q : WE K ba ta ρ τ fun x τ1 => RU K ba r x τ1 Q) : WE K ba (tUn r ta) ρ τ Q := fun σ H Z θ R I k =>
  q σ H Z θ _ I fun v H1 Z1 θ1 d τ1 r1 e1 p1 h1 q1 => q1 v H1 Z1 θ1 R r1 h1 (k.step e1 p1)
theorem w_then {r : V → Hp → VK → Prop} (q : WE K ba ta ρ τ fun x τ1 => RU K ba r x τ1 Q) : WE K ba (tThen ta r) ρ τ Q := fun σ H Z θ R I k =>
  q σ H Z θ _ I fun v H1 Z1 θ1 d τ1 r1 e1 p1 h1 q1 => q1 v H1 Z1 θ1 R r1 h1 (k.step e1 p1)
theorem w_chain {r' : R2} (q : WE K ba ta ρ τ fun x τ1 => WE K ba tb ρ τ1 fun y τ2 => RD K ba r x y τ2 fun z τ3 => ∃ b, z = .bl b ∧ if b = true then WE K ba tc ρ τ3 fun w τ4 => RD K ba r' y w τ4 Q else Q (.bl false) τ3) :
    WE K ba (tChain r r' ta tb tc) ρ τ Q := fun σ H Z θ R I k =>
  q σ H Z θ _ I fun v H1 Z1 θ1 d τ1 r1 e1 p1 h1 q1 => q1 σ H1 Z1 θ1 _ (I.with r1 e1 p1) fun v2 H2 Z2 θ2 d2 τ2 r2 e2 p2 h2 q2 =>
    q2 v v2 H2 Z2 θ2 _ r2 (h1.mono e2 p2) h2 fun v3 H3 Z3 θ3 d3 τ3 r3 e3 p3 h3 ⟨b, hb, q3⟩ => by
      subst hb
      refine ⟨b, h3.bl, ?_⟩
      have k3 := ((k.step e1 p1).step e2 p2).step e3 p3
      cases b with
      | true => exact q3 σ H3 Z3 θ3 _ (((I.with r1 e1 p1).with r2 e2 p2).with r3 e3 p3) fun v4 H4 Z4 θ4 d4 τ4 r4 e4 p4 h4 q4 => q4 v2 v4 H4 Z4 θ4 R r4 ((h2.mono e3 p3).mono e4 p4) h4 (k3.step e4 p4)
      | false => exact k3 _ _ _ _ _ _ r3 Ex.rfl' pre_rfl (.inr (.bl _)) q3
theorem w_var (h : ρ[i]? = some (some x)) (q : Q x τ) : WE K ba (tVar i) ρ τ Q := fun σ H Z θ R I k => by
  obtain ⟨v, h1, h2⟩ := I.at_ i x h
  exact ⟨v, h1, k _ _ _ _ _ _ I.rh Ex.rfl' pre_rfl h2 q⟩
theorem w_cI {n : Int} (q : Q (.int n) τ) : WE K ba (tC (.int n)) ρ τ Q := fun σ H Z θ R I k => k _ _ _ _ _ _ I.rh Ex.rfl' pre_rfl (.inr (.int n)) q
theorem w_cB {b : Bool} (q : Q (.bl b) τ) : WE K ba (tC (.bl b)) ρ τ Q := fun σ H Z θ R I k => k _ _ _ _ _ _ I.rh Ex.rfl' pre_rfl (.inr (.bl b)) q
theorem w_cN (q : Q .non τ) : WE K ba (tC .non) ρ τ Q := fun σ H Z θ R I k => k _ _ _ _ _ _ I.rh Ex.rfl' pre_rfl (.inr .non) q
theorem w_cS {l : List Nat} (q : Q (.str l) τ) : WE K ba (tC (.str (S l))) ρ τ Q := fun σ H Z θ R I k => k _ _ _ _ _ _ I.rh Ex.rfl' pre_rfl (.inr (.str l)) q
theorem w_cs {s : Str} (q : Q (.str s.cps.toList) τ) : WE K ba (tC (.str s)) ρ τ Q := by
  rw [show s = S s.cps.toList from lit s]
  exact w_cS q
theorem w_cR {v : V} (q : Q (.raw v) τ) : WE K ba (tC v) ρ τ Q := fun σ H Z θ R I k => k _ _ _ _ _ _ I.rh Ex.rfl' pre_rfl (.inr (.raw v)) q
theorem w_yes {Q : Bool → Tau → Prop} (q : Q true τ) : WT K ba tYes ρ τ Q := fun σ H Z θ R I k => k _ _ _ _ _ I.rh Ex.rfl' pre_rfl q
theorem w_nopart {Q : Option Int → Tau → Prop} (q : Q none τ) : WO K ba tNoPart ρ τ Q := fun σ H Z θ R I k => k _ _ _ _ _ I.rh Ex.rfl' pre_rfl q
theorem w_part {Q : Option Int → Tau → Prop} (q : WE K ba te ρ τ fun x τ1 => ∃ i, x = .int i ∧ Q (some i) τ1) : WO K ba (tPart te) ρ τ Q := fun σ H Z θ R I k =>
  q σ H Z θ _ I fun v H1 Z1 θ1 d τ1 r1 e1 p1 h1 ⟨i, hi, q1⟩ => by
    subst hi
    exact ⟨i, h1.int, k _ _ _ _ _ r1 e1 p1 q1⟩
/-- slices by values -/
def RSl {T : Tbs} (K : PySem.W.Frag) (ba : Ba T) (r : V → Option Int → Option Int → Hp → VK → Prop) (x : D) (lo hi : Option Int) (τ : Tau) (Q : DK) : Prop := ∀ v H Z θ R, Rh K ba τ H Z θ → RpS K Z θ v x → Co K ba Z θ Q R → r v lo hi H R
theorem w_sl {r : V → Option Int → Option Int → Hp → VK → Prop} {to th : TO} (q : WE K ba te ρ τ fun x τ1 => WO K ba to ρ τ1 fun l τ2 => WO K ba th ρ τ2 fun u τ3 => RSl K ba r x l u τ3 Q) : WE K ba (tSl r te to th) ρ τ Q := fun σ H Z θ R I k =>
  q σ H Z θ _ I fun v H1 Z1 θ1 d τ1 r1 e1 p1 h1 q1 => q1 σ H1 Z1 θ1 _ (I.with r1 e1 p1) fun l H2 Z2 θ2 τ2 r2 e2 p2 q2 => q2 σ H2 Z2 θ2 _ ((I.with r1 e1 p1).with r2 e2 p2) fun u H3 Z3 θ3 τ3 r3 e3 p3 q3 =>
    q3 v H3 Z3 θ3 R r3 ((h1.mono e2 p2).mono e3 p3) (((k.step e1 p1).step e2 p2).step e3 p3)
/-- methods of built-in types -/
def TyD {T : Tbs} (K : PySem.W.Frag) (ba : Ba T) (T : String) (x : D) (τ : Tau) : Prop := ∀ v H Z θ, Rh K ba τ H Z θ → RpS K Z θ v x → tyV K T v H
theorem w_bm {T : String} {r : V → List V → Hp → VK → Prop} {to : TE} (q : WE K ba to ρ τ fun x τ1 => TyD K ba T x τ1 ∧ WA K ba tl ρ τ1 fun xs τ2 => RM K ba r x xs τ2 Q) : WE K ba (tBM K T r to tl) ρ τ Q := fun σ H Z θ R I k =>
  q σ H Z θ _ I fun v H1 Z1 θ1 d τ1 r1 e1 p1 h1 ⟨ht, q1⟩ => ⟨ht v H1 Z1 θ1 r1 h1, q1 σ H1 Z1 θ1 _ (I.with r1 e1 p1) fun vs H2 Z2 θ2 ds τ2 r2 e2 p2 h2 q2 => q2 v vs H2 Z2 θ2 R r2 (h1.mono e2 p2) h2 ((k.step e1 p1).step e2 p2)⟩
theorem w_bm0 {T : String} {r : V → List V → Hp → VK → Prop} {to : TE} (q : WE K ba to ρ τ fun x τ1 => TyD K ba T x τ1 ∧ RM K ba r x [] τ1 Q) : WE K ba (tBM0 K T r to) ρ τ Q := fun σ H Z θ R I k =>
  q σ H Z θ _ I fun v H1 Z1 θ1 d τ1 r1 e1 p1 h1 ⟨ht, q1⟩ => ⟨ht v H1 Z1 θ1 r1 h1, q1 v [] H1 Z1 θ1 R r1 h1 .nil (k.step e1 p1)⟩
theorem ty_str {l : List Nat} : TyD K ba "str" (.str l) τ := fun v H Z θ r h => by rw [h.str]; rfl
theorem w_tup (q : WA K ba tl ρ τ fun xs τ1 => notk xs = true ∧ xs.length ≤ sizeLine ∧ Q (.tup xs) τ1) : WE K ba (tTup tl) ρ τ Q := fun σ H Z θ R I k =>
  q σ H Z θ _ I fun vs H1 Z1 θ1 ds τ1 r1 e1 p1 h1 ⟨n, l, q1⟩ => ⟨by rw [h1.length]; exact l, fun p hp => by
    obtain ⟨r2, e2⟩ := r1.lay (o := .tup vs) hp
    exact k _ _ _ _ _ _ r2 (e1.trans e2) p1 (.inr (.node (t := .tup) upd_same ((h1.rp n).mono e2))) q1⟩
theorem w_lst (q : WA K ba tl ρ τ fun xs τ1 => notk xs = true ∧ xs.length ≤ sizeLine ∧ Q (.lst xs) τ1) : WE K ba (tLst tl) ρ τ Q := fun σ H Z θ R I k =>
  q σ H Z θ _ I fun vs H1 Z1 θ1 ds τ1 r1 e1 p1 h1 ⟨n, l, q1⟩ => ⟨by rw [h1.length]; exact l, fun p hp => by
    obtain ⟨r2, e2⟩ := r1.lay (o := .lst vs) hp
    exact k _ _ _ _ _ _ r2 (e1.trans e2) p1 (.inr (.node (t := .lst) upd_same ((h1.rp n).mono e2))) q1⟩
/-- a list that will be changed: a new cell -/
theorem w_lstC (q : WA K ba tl ρ τ fun xs τ1 => notk xs = true ∧ xs.length ≤ sizeLine ∧ Q (.tk τ1.length) (τ1 ++ [.lst xs])) : WE K ba (tLst tl) ρ τ Q := fun σ H Z θ R I k =>
  q σ H Z θ _ I fun vs H1 Z1 θ1 ds τ1 r1 e1 p1 h1 ⟨n, l, q1⟩ => ⟨by rw [h1.length]; exact l, fun p hp => by
    have r2 := r1.cellNew (t := .lst) (o := .lst vs) hp rfl (h1.rp n)
    refine k _ _ _ _ _ _ r2 e1 (p1.trans (List.prefix_append _ _)) (.inl ⟨τ1.length, p, rfl, ?_, rfl⟩) q1
    rw [← r1.len, List.getElem?_append_right (Nat.le_refl _), Nat.sub_self]
    rfl⟩
/-- the cell n is closed in the slots -/
def clo (n : Nat) (d : D) : Rho → Rho := List.map fun
  | some (.tk m) => if m = n then some d else some (.tk m)
  | o => o
theorem Rl.clo {n : Nat} {t : Tag} {xs : List D} {σ : L2.St} {H Z : Hp} {θ : List Addr} (I : Rl K ba ρ τ σ H Z θ) (hn : τ[n]? = some (.nd t xs)) :
    ∃ Z', Rl K ba (clo n (.node t xs) ρ) (τ.set n .dead) σ H Z' θ ∧ Ex Z Z' := by
  have hl : n < θ.length := by
    rw [I.len]
    exact (List.getElem?_eq_some_iff.mp hn).1
  obtain ⟨Z', r', e, hr, _⟩ := I.rh.freeze hn (List.getElem?_eq_getElem hl)
  refine ⟨Z', ⟨r', by unfold Pu.clo; rw [List.length_map]; exact I.sl, fun i d q => ?_⟩, e⟩
  unfold Pu.clo at q
  rw [List.getElem?_map] at q
  cases hi : ρ[i]? with
  | none =>
    rw [hi] at q
    cases q
  | some o =>
    rw [hi] at q
    cases o with
    | none =>
      simp at q
    | some d0 =>
      obtain ⟨v, h1, h2⟩ := I.at_ i d0 hi
      refine ⟨v, h1, ?_⟩
      cases d0 with
      | tk m =>
        by_cases hm : m = n
        · subst hm
          have q : D.node t xs = d := by simpa using q
          subst q
          obtain ⟨a, h3, h4⟩ := h2.tk
          rw [List.getElem?_eq_getElem hl] at h4
          injection h4 with h4
          rw [h3, ← h4]
          exact .inr hr
        · have q : D.tk m = d := by simpa [hm] using q
          subst q
          exact h2.mono e pre_rfl
      | _ =>
        have q := Option.some.inj (Option.some.inj q)
        subst q
        exact h2.mono e pre_rfl
theorem w_close (n : Nat) {t' : Tag} {xs : List D} (hn : τ[n]? = some (.nd t' xs)) (q : WS K ba t (clo n (.node t' xs) ρ) (τ.set n .dead) P) : WS K ba t ρ τ P := fun σ H Z θ De I F => by
  obtain ⟨Z', I', e⟩ := I.clo hn
  exact q σ H Z' θ De I' (F.step e pre_rfl)
/-- an answer that is a cell is handed back as what the cell holds -/
theorem w_retC {n : Nat} {t' : Tag} {xs : List D} (h : ρ[i]? = some (some (.tk n))) (hn : τ[n]? = some (.nd t' xs)) (q : P.rt (.node t' xs) (τ.set n .dead)) : WS K ba (tRet (tVar i)) ρ τ P := by
  refine w_close n hn (w_ret (w_var (x := .node t' xs) ?_ q))
  unfold clo
  rw [List.getElem?_map, h]
  simp
end
end Pu

set_option Elab.async false
set_option linter.all false
set_option maxRecDepth 100000
set_option maxHeartbeats 4000000
namespace Pu
open PySem PySem.Spec PyProof.Rows L2 Fg
/-! ### plain data: none, truths, numbers, texts, tuples and lists of them, at most n deep -/
mutual
def D.py : D → PyData
  | .non => .none
  | .bl b => .bool b
  | .int i => .int i
  | .str l => .str (S l)
  | .node .tup xs => .tuple (pyA xs)
  | .node .ktup xs => .tuple (pyA xs)
  | .node .lst xs => .list (pyA xs)
  | _ => .dict []
def pyA : List D → List PyData
  | [] => []
  | x :: xs => x.py :: pyA xs
end
def pln : Nat → D → Bool
  | _, .non => true
  | _, .bl _ => true
  | _, .int _ => true
  | _, .str _ => true
  | n + 1, .node .tup xs => xs.all (pln n)
  | n + 1, .node .ktup xs => xs.all (pln n)
  | n + 1, .node .lst xs => xs.all (pln n)
  | _, _ => false
section
variable {K : PySem.W.Frag} {T : Tbs} {ba : Ba T} {Z H : Hp}
theorem pyA_plain {n : Nat} (ih : ∀ d, pln n d = true → d.py.plain = true ∧ d.py.depth ≤ n) : ∀ xs : List D, xs.all (pln n) = true → PyData.plainAll (pyA xs) = true ∧ PyData.depthAll (pyA xs) ≤ n
  | [], _ => by simp [pyA, PyData.plainAll, PyData.depthAll]
  | x :: xs, h => by
    rw [List.all_cons, Bool.and_eq_true] at h
    have h1 := ih x h.1
    have h2 := pyA_plain ih xs h.2
    constructor
    · simp [pyA, PyData.plainAll, h1.1, h2.1]
    · simp only [pyA, PyData.depthAll]
      omega
theorem pln_plain : ∀ (n : Nat) (d : D), pln n d = true → d.py.plain = true ∧ d.py.depth ≤ n
  | n, .non, _ => by simp [D.py, PyData.plain, PyData.depth]
  | n, .bl _, _ => by simp [D.py, PyData.plain, PyData.depth]
  | n, .int _, _ => by simp [D.py, PyData.plain, PyData.depth]
  | n, .str _, _ => by simp [D.py, PyData.plain, PyData.depth]
  | n + 1, .node .tup xs, h => by
    have h : xs.all (pln n) = true := h
    have := pyA_plain (pln_plain n) xs h
    simp only [D.py, PyData.plain, PyData.depth]
    exact ⟨this.1, by omega⟩
  | n + 1, .node .ktup xs, h => by
    have h : xs.all (pln n) = true := h
    have := pyA_plain (pln_plain n) xs h
    simp only [D.py, PyData.plain, PyData.depth]
    exact ⟨this.1, by omega⟩
  | n + 1, .node .lst xs, h => by
    have h : xs.all (pln n) = true := h
    have := pyA_plain (pln_plain n) xs h
    simp only [D.py, PyData.plain, PyData.depth]
    exact ⟨this.1, by omega⟩
  | 0, .node .tup _, h => by simp [pln] at h
  | 0, .node .ktup _, h => by simp [pln] at h
  | 0, .node .lst _, h => by simp [pln] at h
  | n, .raw _, h => by simp [pln] at h
  | n, .tk _, h => by simp [pln] at h
  | n, .node (.dk _) _, h => by simp [pln] at h
  | n, .node (.dt _) _, h => by simp [pln] at h
  | n, .node (.obj _ _) _, h => by simp [pln] at h
theorem dpA_of (e : Ex Z H) {n : Nat} (ih : ∀ d v, pln n d = true → Rp K Z v d → Dp K H v d.py) : ∀ (xs : List D) (vs : List V), xs.all (pln n) = true → RpA K Z vs xs → DpAll K H vs (pyA xs)
  | [], _, _, r => by
    cases r
    exact .nil
  | x :: xs, _, h, r => by
    rw [List.all_cons, Bool.and_eq_true] at h
    cases r with
    | cons h1 r1 => exact .cons (ih x _ h.1 h1) (dpA_of e ih xs _ h.2 r1)
theorem dp_of (e : Ex Z H) : ∀ (n : Nat) (d : D) (v : V), pln n d = true → Rp K Z v d → Dp K H v d.py
  | _, .non, _, _, r => by
    cases r
    exact .non
  | _, .bl b, _, _, r => by
    cases r
    exact .bl b
  | _, .int i, _, _, r => by
    cases r
    exact .int i
  | _, .str l, _, _, r => by
    cases r
    exact .str _
  | n + 1, .node .tup xs, _, h, r => by
    have h : xs.all (pln n) = true := h
    cases r with
    | node q r =>
      exact .tup (NodeAt.sqT (.inl rfl) (NodeAt.mono (t := .tup) e q)) (dpA_of e (dp_of e n) xs _ h r)
  | n + 1, .node .ktup xs, _, h, r => by
    have h : xs.all (pln n) = true := h
    cases r with
    | node q r =>
      exact .tup (NodeAt.sqT (t := .ktup) (.inr rfl) q) (dpA_of e (dp_of e n) xs _ h r)
  | n + 1, .node .lst xs, _, h, r => by
    have h : xs.all (pln n) = true := h
    cases r with
    | node q r =>
      exact .lst (Evl.sq_of (e _ _ q)) (dpA_of e (dp_of e n) xs _ h r)
  | 0, .node .tup _, _, h, _ => by simp [pln] at h
  | 0, .node .ktup _, _, h, _ => by simp [pln] at h
  | 0, .node .lst _, _, h, _ => by simp [pln] at h
  | n, .raw _, _, h, _ => by simp [pln] at h
  | n, .tk _, _, h, _ => by simp [pln] at h
  | n, .node (.dk _) _, _, h, _ => by simp [pln] at h
  | n, .node (.dt _) _, _, h, _ => by simp [pln] at h
  | n, .node (.obj _ _) _, _, h, _ => by simp [pln] at h
theorem pln_notk {n : Nat} {d : D} (h : pln n d = true) : ∀ m, d ≠ .tk m := by
  intro m z
  subst z
  cases n <;> simp [pln] at h
end
/-- == of plain data -/
def D.eqv (x y : D) : Bool := PyData.eqv x.py y.py
/-! ### operations on values that serve all plain data -/
def PL (d e : PyData) : Prop := d.plain = true ∧ e.plain = true ∧ min d.depth e.depth ≤ 60
def rEqP (K : PySem.W.Frag) : R2 := fun x y H Q => ∃ d e, Dp K H x d ∧ Dp K H y e ∧ PL d e ∧ Q (.bl (PyData.eqv d e)) H
def rNeP (K : PySem.W.Frag) : R2 := fun x y H Q => ∃ d e, Dp K H x d ∧ Dp K H y e ∧ PL d e ∧ Q (.bl (!PyData.eqv d e)) H
def rInP (K : PySem.W.Frag) : R2 := fun x y H Q => ∃ d e es, Dp K H x d ∧ Dp K H y e ∧ (e = .list es ∨ e = .tuple es) ∧ PL d e ∧ Q (.bl (es.any fun z => PyData.eqv z d)) H
def rNinP (K : PySem.W.Frag) : R2 := fun x y H Q => ∃ d e es, Dp K H x d ∧ Dp K H y e ∧ (e = .list es ∨ e = .tuple es) ∧ PL d e ∧ Q (.bl (!es.any fun z => PyData.eqv z d)) H
def rCmpP (K : PySem.W.Frag) (f : PyData → PyData → Bool) : R2 := fun x y H Q => ∃ d e, Dp K H x d ∧ Dp K H y e ∧ PySem.W.alike d e = true ∧ d ≠ .none ∧ min d.depth e.depth ≤ 60 ∧ Q (.bl (f d e)) H
def rDGet : R2 := fun x y H Q => ∃ a v, x = .ref a ∧ DGet H a y (some v) ∧ Q v H
def rDIn (neg : Bool) : R2 := fun x y H Q => ∃ a o, y = .ref a ∧ DGet H a x o ∧ Q (.bl (if neg then !o.isSome else o.isSome)) H
def rKIn (K : PySem.W.Frag) (w : World) (neg : Bool) : R2 := fun x y H Q => ∃ a z es n r, x = .str z ∧ y = .ref a ∧ K.lookup a = some ⟨.type "dict", none, .dict es n, #[]⟩ ∧ PySem.W.KeysLit w.params es.toList ∧ (a == sysModules) = false ∧ PySem.W.nsIn K a z = some r ∧ Q (.bl (if neg then !r.isSome else r.isSome)) H
section
variable {X : Cx}
theorem op_eqP (hu : X.A.units + 64 < cLine) : OpR X (compareOp .Eq) (rEqP X.K) := by
  intro pins s σ H x y v u Q I rx ry h
  obtain ⟨d, e, hd, he, ⟨p1, p2, p3⟩, q⟩ := h
  obtain ⟨as, r1⟩ := Dp.reads I d x v hd rx
  obtain ⟨bs, r2⟩ := Dp.reads I e y u he ry
  exact SeqAt.eq_plain r1 r2 p1 p2 (by omega) ⟨.bl _, H, I, rfl, q⟩
theorem op_neP (hu : X.A.units + 64 < cLine) : OpR X (compareOp .NotEq) (rNeP X.K) := by
  intro pins s σ H x y v u Q I rx ry h
  obtain ⟨d, e, hd, he, ⟨p1, p2, p3⟩, q⟩ := h
  obtain ⟨as, r1⟩ := Dp.reads I d x v hd rx
  obtain ⟨bs, r2⟩ := Dp.reads I e y u he ry
  exact SeqAt.ne_plain r1 r2 p1 p2 (by omega) ⟨.bl _, H, I, rfl, q⟩
theorem op_inP (hu : X.A.units + 64 < cLine) : OpR X (compareOp .In) (rInP X.K) := by
  intro pins s σ H x y v u Q I rx ry h
  obtain ⟨d, e, es, hd, he, hes, ⟨p1, p2, p3⟩, q⟩ := h
  obtain ⟨as, r1⟩ := Dp.reads I d x v hd rx
  obtain ⟨bs, r2⟩ := Dp.reads I e y u he ry
  rcases hes with rfl | rfl
  · have p2' : PyData.plainAll es = true := p2
    have p3' : min d.depth (PyData.depthAll es + 1) ≤ 60 := p3
    exact SeqAt.in_list_data r2 r1 p2' p1 (by omega) ⟨.bl _, H, I, rfl, q⟩
  · have p2' : PyData.plainAll es = true := p2
    have p3' : min d.depth (PyData.depthAll es + 1) ≤ 60 := p3
    exact SeqAt.in_tuple_data r2 r1 p2' p1 (by omega) ⟨.bl _, H, I, rfl, q⟩
theorem op_ninP (hu : X.A.units + 64 < cLine) : OpR X (compareOp .NotIn) (rNinP X.K) := by
  intro pins s σ H x y v u Q I rx ry h
  obtain ⟨d, e, es, hd, he, hes, ⟨p1, p2, p3⟩, q⟩ := h
  obtain ⟨as, r1⟩ := Dp.reads I d x v hd rx
  obtain ⟨bs, r2⟩ := Dp.reads I e y u he ry
  rcases hes with rfl | rfl
  · have p2' : PyData.plainAll es = true := p2
    have p3' : min d.depth (PyData.depthAll es + 1) ≤ 60 := p3
    exact SeqAt.notIn_list_data r2 r1 p2' p1 (by omega) ⟨.bl _, H, I, rfl, q⟩
  · have p2' : PyData.plainAll es = true := p2
    have p3' : min d.depth (PyData.depthAll es + 1) ≤ 60 := p3
    exact SeqAt.notIn_tuple_data r2 r1 p2' p1 (by omega) ⟨.bl _, H, I, rfl, q⟩
theorem op_ltP (hu : X.A.units + 64 < cLine) : OpR X (compareOp .Lt) (rCmpP X.K fun d e => PySem.W.dataLt d e) := by
  intro pins s σ H x y v u Q I rx ry h
  obtain ⟨d, e, hd, he, p1, p2, p3, q⟩ := h
  obtain ⟨as, r1⟩ := Dp.reads I d x v hd rx
  obtain ⟨bs, r2⟩ := Dp.reads I e y u he ry
  exact PySem.W.lt_data r1 r2 p1 p2 (by omega) ⟨.bl _, H, I, rfl, q⟩
theorem op_gtP (hu : X.A.units + 64 < cLine) : OpR X (compareOp .Gt) (rCmpP X.K fun d e => PySem.W.dataLt e d) := by
  intro pins s σ H x y v u Q I rx ry h
  obtain ⟨d, e, hd, he, p1, p2, p3, q⟩ := h
  obtain ⟨as, r1⟩ := Dp.reads I d x v hd rx
  obtain ⟨bs, r2⟩ := Dp.reads I e y u he ry
  exact PySem.W.gt_data r1 r2 p1 p2 (by omega) ⟨.bl _, H, I, rfl, q⟩
theorem op_leP (hu : X.A.units + 64 < cLine) : OpR X (compareOp .LtE) (rCmpP X.K fun d e => !PySem.W.dataLt e d) := by
  intro pins s σ H x y v u Q I rx ry h
  obtain ⟨d, e, hd, he, p1, p2, p3, q⟩ := h
  obtain ⟨as, r1⟩ := Dp.reads I d x v hd rx
  obtain ⟨bs, r2⟩ := Dp.reads I e y u he ry
  exact PySem.W.le_data r1 r2 p1 p2 (by omega) ⟨.bl _, H, I, rfl, q⟩
theorem op_geP (hu : X.A.units + 64 < cLine) : OpR X (compareOp .GtE) (rCmpP X.K fun d e => !PySem.W.dataLt d e) := by
  intro pins s σ H x y v u Q I rx ry h
  obtain ⟨d, e, hd, he, p1, p2, p3, q⟩ := h
  obtain ⟨as, r1⟩ := Dp.reads I d x v hd rx
  obtain ⟨bs, r2⟩ := Dp.reads I e y u he ry
  exact PySem.W.ge_data r1 r2 p1 p2 (by omega) ⟨.bl _, H, I, rfl, q⟩
theorem ix_dget (hu : X.A.units + 1 < cLine) : IxR X rDGet := by
  intro value slice pins s σ H x y v u Q I rx ry h hs
  obtain ⟨a, w, rfl, g, q⟩ := h
  obtain rfl : v = Value.ref a := rx
  exact tail_any (dict_typeIs I g) slot_dict_getitem.lookup (d_getItem hu I g ry fun w' s3 I3 rw' => ⟨w, H, I3, rw', q⟩) hs
theorem op_dIn (hu : X.A.units + 1 < cLine) : OpR X (compareOp .In) (rDIn false) := by
  intro pins s σ H x y v u Q I rx ry h
  obtain ⟨a, o, rfl, g, q⟩ := h
  obtain rfl : u = Value.ref a := ry
  exact d_in hu I g rx fun s3 I3 => ⟨.bl _, H, I3, rfl, q⟩
theorem op_dNin (hu : X.A.units + 1 < cLine) : OpR X (compareOp .NotIn) (rDIn true) := by
  intro pins s σ H x y v u Q I rx ry h
  obtain ⟨a, o, rfl, g, q⟩ := h
  obtain rfl : u = Value.ref a := ry
  exact d_notIn hu I g rx fun s3 I3 => ⟨.bl _, H, I3, rfl, q⟩
theorem op_kIn : OpR X (compareOp .In) (rKIn X.K X.w false) := by
  intro pins s σ H x y v u Q I rx ry h
  obtain ⟨a, z, es, n, r, rfl, rfl, h1, h2, h4, h3, q⟩ := h
  exact op_in_kd ⟨h1, h2, h4⟩ pins s σ H _ _ v u Q I rx ry ⟨z, r, rfl, rfl, h3, q⟩
theorem op_kNin : OpR X (compareOp .NotIn) (rKIn X.K X.w true) := by
  intro pins s σ H x y v u Q I rx ry h
  obtain ⟨a, z, es, n, r, rfl, rfl, h1, h2, h4, h3, q⟩ := h
  exact op_notIn_kd ⟨h1, h2, h4⟩ pins s σ H _ _ v u Q I rx ry ⟨z, r, rfl, rfl, h3, q⟩
/-! ### one operation for all kinds -/
def ror (a b : R2) : R2 := fun x y H Q => a x y H Q ∨ b x y H Q
def rEqU (K : PySem.W.Frag) : R2 := rEqP K
def rIxU (K : PySem.W.Frag) (w : World) : R2 := fun x y H Q => rIxL K x y H Q ∨ rIxT K x y H Q ∨ rIxSS x y H Q ∨ rDGet x y H Q ∨ rIxD K w x y H Q
theorem ix_U (hu : X.A.units + 1 < cLine) : IxR X (rIxU X.K X.w) := ix_list.or (ix_tup.or (ix_strS.or ((ix_dget hu).or ix_kdict)))
def rInU (K : PySem.W.Frag) (w : World) : R2 := fun x y H Q => rInSS x y H Q ∨ rInP K x y H Q ∨ rDIn false x y H Q ∨ rKIn K w false x y H Q
theorem op_inU (hu : X.A.units + 64 < cLine) : OpR X (compareOp .In) (rInU X.K X.w) := op_inSS.or ((op_inP hu).or ((op_dIn (by omega)).or op_kIn))
def rNinU (K : PySem.W.Frag) (w : World) : R2 := fun x y H Q => rNiS x y H Q ∨ rNinP K x y H Q ∨ rDIn true x y H Q ∨ rKIn K w true x y H Q
theorem op_ninU (hu : X.A.units + 64 < cLine) : OpR X (compareOp .NotIn) (rNinU X.K X.w) := op_niS.or ((op_ninP hu).or ((op_dNin (by omega)).or op_kNin))
def rAddU (K : PySem.W.Frag) : R2 := fun x y H Q => rI0 (fun i j => .int (i + j)) x y H Q ∨ rCatS x y H Q ∨ rCat x y H Q ∨ rCatA K x y H Q
theorem op_addU : OpR X (binaryOp .Add) (rAddU X.K) := op_add.or (op_catS.or (op_cat.or op_catA))
def CMulW (i j : Int) : Prop := ∃ a b : Nat, i.natAbs < 2 ^ a ∧ j.natAbs < 2 ^ b ∧ a + b ≤ 1000000
def rMulU : R2 := fun x y H Q => rI CMul (fun i j => .int (i * j)) x y H Q ∨ rRepS x y H Q ∨ rRep x y H Q
theorem op_mulU : OpR X (binaryOp .Mult) rMulU := op_mul.or (op_repS.or op_rep)
def rSlU (K : PySem.W.Frag) : V → Option Int → Option Int → Hp → VK → Prop := fun x lo hi H Q => rSlSS x lo hi H Q ∨ rSlL K x lo hi H Q ∨ rSlA K x lo hi H Q
theorem sl_U : SlR X (rSlU X.K) := sl_strS.or (sl_list.or sl_tupA)
theorem CallR.or {f : Value} {r r' : List V → Hp → VK → Prop} (h : CallR X f r) (h' : CallR X f r') : CallR X f (fun vs H Q => r vs H Q ∨ r' vs H Q) := by
  intro pins s σ H xs us Q I r q
  rcases q with q | q
  · exact h pins s σ H xs us Q I r q
  · exact h' pins s σ H xs us Q I r q
def rLenU (K : PySem.W.Frag) : List V → Hp → VK → Prop := fun vs H Q => rLenS vs H Q ∨ rLenQ K vs H Q ∨ ∃ a kvs, vs = [V.ref a] ∧ H a = some (.dK kvs) ∧ Q (.int kvs.length) H
theorem call_lenU : CallR X (.builtin "len") (rLenU X.K) := call_lenS.or (call_lenQ.or call_lenD)
end
end Pu

set_option Elab.async false
set_option linter.all false
set_option maxRecDepth 100000
set_option maxHeartbeats 4000000
namespace Pu
open PySem PySem.Spec PyProof.Rows L2 Fg
/-! ### what a value stands for, a cell resolved -/
def D.rs (τ : Tau) : D → D
  | .tk n => match τ[n]? with
    | some (.nd t xs) => .node t xs
    | _ => .tk n
  | d => d
theorem D.rs_tk {τ : Tau} {n : Nat} : (D.tk n).rs τ = match τ[n]? with
    | some (.nd t xs) => .node t xs
    | _ => .tk n := rfl
section
variable {K : PySem.W.Frag} {T : Tbs} {ba : Ba T} {Z Z' H H' : Hp} {θ θ' : List Addr} {τ τ' : Tau} {ρ : Rho} {v u : V} {x y : D}
theorem rs_node {t : Tag} {xs : List D} (r : Rh K ba τ H Z θ) (h : RpS K Z θ v x) (e : x.rs τ = .node t xs) : ∃ a vs, v = .ref a ∧ NodeAt K H a vs t ∧ RpA K Z vs xs := by
  cases x with
  | node t' xs' =>
    have e : D.node t' xs' = .node t xs := e
    injection e with e1 e2
    subst e1; subst e2
    obtain ⟨a, vs, h1, h2, h3⟩ := h.node
    exact ⟨a, vs, h1, h2.mono r.ex, h3⟩
  | tk n =>
    rw [D.rs_tk] at e
    obtain ⟨a, h1, h2⟩ := h.tk
    cases hn : τ[n]? with
    | none =>
      rw [hn] at e
      cases e
    | some c =>
      rw [hn] at e
      cases c with
      | nd t' xs' =>
        have e : D.node t' xs' = .node t xs := e
        injection e with e1 e2
        subst e1; subst e2
        obtain ⟨_, vs, o, h3, h4, h5⟩ := r.cell n a _ h2 hn
        exact ⟨a, vs, h1, HoOf.at h3 h4, h5⟩
      | draw => cases e
      | dead => cases e
  | _ => cases e
theorem pln_rs {n : Nat} {d : D} (h : pln n d = true) : d.rs τ = d := by
  cases d with
  | tk m => exact absurd rfl (pln_notk h m)
  | _ => rfl
theorem dp_node {t : Tag} {xs : List D} {n : Nat} (r : Rh K ba τ H Z θ) (h : RpS K Z θ v x) (e : x.rs τ = .node t xs) (hp : pln n (.node t xs) = true) : Dp K H v (D.node t xs).py := by
  obtain ⟨a, vs, rfl, h2, h3⟩ := rs_node r h e
  cases n with
  | zero => cases t <;> simp [pln] at hp
  | succ n =>
    cases t with
    | tup =>
      have hp : xs.all (pln n) = true := hp
      exact .tup (NodeAt.sqT (t := .tup) (.inl rfl) h2) (dpA_of r.ex (dp_of r.ex n) xs vs hp h3)
    | ktup =>
      have hp : xs.all (pln n) = true := hp
      exact .tup (NodeAt.sqT (t := .ktup) (.inr rfl) h2) (dpA_of r.ex (dp_of r.ex n) xs vs hp h3)
    | lst =>
      have hp : xs.all (pln n) = true := hp
      exact .lst (Evl.sq_of h2) (dpA_of r.ex (dp_of r.ex n) xs vs hp h3)
    | _ => simp [pln] at hp
theorem dp_rs {x' : D} {n : Nat} (r : Rh K ba τ H Z θ) (h : RpS K Z θ v x) (e : x.rs τ = x') (hp : pln n x' = true) : Dp K H v x'.py := by
  cases x' with
  | node t xs => exact dp_node r h e hp
  | raw _ => cases n <;> simp [pln] at hp
  | tk _ => cases n <;> simp [pln] at hp
  | non =>
    cases x with
    | non =>
      rw [h.non]
      exact .non
    | tk n =>
      rw [D.rs_tk] at e
      split at e <;> cases e
    | _ => cases e
  | bl b =>
    cases x with
    | bl b' =>
      have e : D.bl b' = .bl b := e
      injection e with e
      subst e
      rw [h.bl]
      exact .bl b'
    | tk n =>
      rw [D.rs_tk] at e
      split at e <;> cases e
    | _ => cases e
  | int b =>
    cases x with
    | int b' =>
      have e : D.int b' = .int b := e
      injection e with e
      subst e
      rw [h.int]
      exact .int b'
    | tk n =>
      rw [D.rs_tk] at e
      split at e <;> cases e
    | _ => cases e
  | str b =>
    cases x with
    | str b' =>
      have e : D.str b' = .str b := e
      injection e with e
      subst e
      rw [h.str]
      exact .str _
    | tk n =>
      rw [D.rs_tk] at e
      split at e <;> cases e
    | _ => cases e
theorem PL.of {n m : Nat} {x y : D} (h1 : pln n x = true) (h2 : pln m y = true) (hn : min n m ≤ 60) : PL x.py y.py := by
  have a := pln_plain n x h1
  have b := pln_plain m y h2
  exact ⟨a.1, b.1, by omega⟩
theorem RpS.ofRp (h : Rp K Z v x) : RpS K Z θ v x := .inr h
theorem atI_rp {vs : List V} {xs : List D} {i : Int} {d : D} (r : RpA K Z vs xs) (h : atI xs i = some d) : ∃ v, atI vs i = some v ∧ Rp K Z v d := by
  unfold atI at h ⊢
  rw [r.length]
  cases hj : ixN xs.length i with
  | none =>
    rw [hj] at h
    cases h
  | some j =>
    rw [hj] at h
    exact r.get' h
end
section
variable {K : PySem.W.Frag} {T : Tbs} {ba : Ba T} {w : World} {τ : Tau} {Q : DK} {x y : D}
theorem Co.now {Z H : Hp} {θ : List Addr} {R : VK} {v : V} {d : D} (k : Co K ba Z θ Q R) (r : Rh K ba τ H Z θ) (h : Rp K Z v d) (q : Q d τ) : R v H := k _ _ _ _ _ _ r Ex.rfl' pre_rfl (.inr h) q
theorem Co.lay {Z H : Hp} {θ : List Addr} {R : VK} {t : Tag} {vs : List V} {xs : List D} {o : HO} (k : Co K ba Z θ Q R) (r : Rh K ba τ H Z θ) (h : RpA K Z vs xs) (ho : (∀ Z' : Hp, ∀ p, Z' p = some o → NodeAt K Z' p vs t) ∧ ∀ ps, o ≠ .tbl ps) (q : Q (.node t xs) τ) : ∀ p, H p = none → R (.ref p) (upd H p o) := fun p hp => by
  obtain ⟨r2, e⟩ := r.lay (o := o) hp ho.2
  exact k _ _ _ _ _ _ r2 e pre_rfl (.inr (.node (ho.1 _ p upd_same) (h.mono e))) q
theorem na_lst {vs : List V} : (∀ Z' : Hp, ∀ p, Z' p = some (.lst vs) → NodeAt K Z' p vs .lst) ∧ ∀ ps, (.lst vs : HO) ≠ .tbl ps := ⟨fun _ _ h => h, by nofun⟩
theorem na_tup {vs : List V} : (∀ Z' : Hp, ∀ p, Z' p = some (.tup vs) → NodeAt K Z' p vs .tup) ∧ ∀ ps, (.tup vs : HO) ≠ .tbl ps := ⟨fun _ _ h => h, by nofun⟩
theorem d_I0 {g : Int → Int → Int} {i j : Int} (q : Q (.int (g i j)) τ) : RD K ba (rI0 fun i j => .int (g i j)) (.int i) (.int j) τ Q := fun v u H Z θ R r h1 h2 k => by
  rw [h1.int, h2.int]
  exact ⟨i, j, rfl, rfl, k.now r (.int _) q⟩
theorem d_I0b {g : Int → Int → Bool} {i j : Int} (q : Q (.bl (g i j)) τ) : RD K ba (rI0 fun i j => .bl (g i j)) (.int i) (.int j) τ Q := fun v u H Z θ R r h1 h2 k => by
  rw [h1.int, h2.int]
  exact ⟨i, j, rfl, rfl, k.now r (.bl _) q⟩
theorem d_I {C : Int → Int → Prop} {g : Int → Int → Int} {i j : Int} (c : C i j) (q : Q (.int (g i j)) τ) : RD K ba (rI C fun i j => .int (g i j)) (.int i) (.int j) τ Q := fun v u H Z θ R r h1 h2 k => by
  rw [h1.int, h2.int]
  exact ⟨i, j, rfl, rfl, c, k.now r (.int _) q⟩
theorem d_neg {i : Int} (q : Q (.int (-i)) τ) : RU K ba (rU fun i => .int (-i)) (.int i) τ Q := fun v H Z θ R r h1 k => by
  rw [h1.int]
  exact ⟨i, rfl, k.now r (.int _) q⟩
theorem d_addI {i j : Int} (q : Q (.int (i + j)) τ) : RD K ba (rAddU K) (.int i) (.int j) τ Q := fun v u H Z θ R r h1 h2 k => .inl (by
  rw [h1.int, h2.int]
  exact ⟨i, j, rfl, rfl, k.now r (.int _) q⟩)
theorem d_catS {a b : List Nat} (h : a.length + b.length ≤ sizeLine) (q : Q (.str (a ++ b)) τ) : RD K ba (rAddU K) (.str a) (.str b) τ Q := fun v u H Z θ R r h1 h2 k => .inr (.inl (by
  rw [h1.str, h2.str]
  exact ⟨a, b, rfl, rfl, h, k.now r (.str _) q⟩))
theorem d_catL {xs ys : List D} (hx : x.rs τ = .lst xs) (hy : y.rs τ = .lst ys) (h : xs.length + ys.length ≤ sizeLine) (q : Q (.lst (xs ++ ys)) τ) : RD K ba (rAddU K) x y τ Q := fun v u H Z θ R r h1 h2 k => .inr (.inr (.inl (by
  obtain ⟨a, vs, rfl, n1, r1⟩ := rs_node r h1 hx
  obtain ⟨b, us, rfl, n2, r2⟩ := rs_node r h2 hy
  exact ⟨a, b, vs, us, rfl, rfl, n1, n2, by rw [r1.length, r2.length]; exact h, k.lay r (r1.append r2) na_lst q⟩)))
theorem d_catT {xs ys : List D} (hx : x.rs τ = .tup xs) (hy : y.rs τ = .tup ys) (h : xs.length + ys.length ≤ sizeLine) (q : Q (.tup (xs ++ ys)) τ) : RD K ba (rAddU K) x y τ Q := fun v u H Z θ R r h1 h2 k => .inr (.inr (.inr (by
  obtain ⟨a, vs, e1, n1, r1⟩ := rs_node r h1 hx
  obtain ⟨b, us, e2, n2, r2⟩ := rs_node r h2 hy
  have hx' : x = .tup xs := by
    cases x with
    | tk n =>
      rw [D.rs_tk] at hx
      split at hx
      · rename_i hc
        injection hx with ht hxs
        subst ht
        obtain ⟨c, _, hc'⟩ := h1.tk
        obtain ⟨_, vs', o, _, ho, _⟩ := r.cell n c _ hc' hc
        exact ho.elim
      · cases hx
    | _ => exact hx
  have hy' : y = .tup ys := by
    cases y with
    | tk n =>
      rw [D.rs_tk] at hy
      split at hy
      · rename_i hc
        injection hy with ht hxs
        subst ht
        obtain ⟨c, _, hc'⟩ := h2.tk
        obtain ⟨_, vs', o, _, ho, _⟩ := r.cell n c _ hc' hc
        exact ho.elim
      · cases hy
    | _ => exact hy
  subst hx' hy' e1 e2
  refine ⟨a, b, vs, us, rfl, rfl, NodeAt.sqT (t := .tup) (.inl rfl) n1, NodeAt.sqT (t := .tup) (.inl rfl) n2, by rw [r1.length, r2.length]; exact h, fun e => ?_, fun _ e => ?_, fun _ _ => k.lay r (r1.append r2) na_tup q⟩
  · subst e
    cases r1
    exact k _ _ _ _ _ _ r Ex.rfl' pre_rfl h2 (by simpa using q)
  · subst e
    cases r2
    exact k _ _ _ _ _ _ r Ex.rfl' pre_rfl h1 (by simpa using q))))
theorem d_eq {x' y' : D} {n m : Nat} (hx : x.rs τ = x') (hy : y.rs τ = y') (h1 : pln n x' = true) (h2 : pln m y' = true) (hn : min n m ≤ 60) (q : Q (.bl (x'.eqv y')) τ) : RD K ba (rEqP K) x y τ Q := fun v u H Z θ R r g1 g2 k =>
  ⟨_, _, dp_rs r g1 hx h1, dp_rs r g2 hy h2, PL.of h1 h2 hn, k.now r (.bl _) q⟩
theorem d_ne {x' y' : D} {n m : Nat} (hx : x.rs τ = x') (hy : y.rs τ = y') (h1 : pln n x' = true) (h2 : pln m y' = true) (hn : min n m ≤ 60) (q : Q (.bl (!x'.eqv y')) τ) : RD K ba (rNeP K) x y τ Q := fun v u H Z θ R r g1 g2 k =>
  ⟨_, _, dp_rs r g1 hx h1, dp_rs r g2 hy h2, PL.of h1 h2 hn, k.now r (.bl _) q⟩
theorem any_py {d : D} : ∀ xs : List D, ((pyA xs).any fun z => PyData.eqv z d.py) = xs.any fun z => z.eqv d
  | [] => rfl
  | x :: xs => by
    show (PyData.eqv x.py d.py || (pyA xs).any fun z => PyData.eqv z d.py) = _
    rw [any_py xs]
    rfl
theorem py_tup {t : Tag} {xs : List D} (ht : t = .tup ∨ t = .ktup) : (D.node t xs).py = .tuple (pyA xs) := by
  rcases ht with rfl | rfl <;> rfl
theorem d_inL {x' : D} {xs : List D} {n m : Nat} (hx : x.rs τ = x') (hy : y.rs τ = .lst xs) (h1 : pln n x' = true) (h2 : pln m (.lst xs) = true) (hn : min n m ≤ 60) (q : Q (.bl (xs.any fun z => z.eqv x')) τ) : RD K ba (rInU K w) x y τ Q := fun v u H Z θ R r g1 g2 k =>
  .inr (.inl ⟨_, _, pyA xs, dp_rs r g1 hx h1, dp_rs r g2 hy h2, .inl rfl, PL.of h1 h2 hn, by rw [any_py]; exact k.now r (.bl _) q⟩)
theorem d_inT {x' : D} {t : Tag} {xs : List D} (ht : t = .tup ∨ t = .ktup) {n m : Nat} (hx : x.rs τ = x') (hy : y.rs τ = .node t xs) (h1 : pln n x' = true) (h2 : pln m (.node t xs) = true) (hn : min n m ≤ 60) (q : Q (.bl (xs.any fun z => z.eqv x')) τ) : RD K ba (rInU K w) x y τ Q := fun v u H Z θ R r g1 g2 k =>
  .inr (.inl ⟨_, _, pyA xs, dp_rs r g1 hx h1, dp_rs r g2 hy h2, .inr (py_tup ht), PL.of h1 h2 hn, by rw [any_py]; exact k.now r (.bl _) q⟩)
theorem d_ninL {x' : D} {xs : List D} {n m : Nat} (hx : x.rs τ = x') (hy : y.rs τ = .lst xs) (h1 : pln n x' = true) (h2 : pln m (.lst xs) = true) (hn : min n m ≤ 60) (q : Q (.bl (!xs.any fun z => z.eqv x')) τ) : RD K ba (rNinU K w) x y τ Q := fun v u H Z θ R r g1 g2 k =>
  .inr (.inl ⟨_, _, pyA xs, dp_rs r g1 hx h1, dp_rs r g2 hy h2, .inl rfl, PL.of h1 h2 hn, by rw [any_py]; exact k.now r (.bl _) q⟩)
theorem d_ninT {x' : D} {t : Tag} {xs : List D} (ht : t = .tup ∨ t = .ktup) {n m : Nat} (hx : x.rs τ = x') (hy : y.rs τ = .node t xs) (h1 : pln n x' = true) (h2 : pln m (.node t xs) = true) (hn : min n m ≤ 60) (q : Q (.bl (!xs.any fun z => z.eqv x')) τ) : RD K ba (rNinU K w) x y τ Q := fun v u H Z θ R r g1 g2 k =>
  .inr (.inl ⟨_, _, pyA xs, dp_rs r g1 hx h1, dp_rs r g2 hy h2, .inr (py_tup ht), PL.of h1 h2 hn, by rw [any_py]; exact k.now r (.bl _) q⟩)
theorem d_inS {c : Nat} {l : List Nat} (q : Q (.bl (decide (c ∈ l))) τ) : RD K ba (rInU K w) (.str [c]) (.str l) τ Q := fun v u H Z θ R r g1 g2 k =>
  .inl ⟨c, l, g1.str, g2.str, k.now r (.bl _) q⟩
theorem d_ninS {c : Nat} {l : List Nat} (q : Q (.bl (!decide (c ∈ l))) τ) : RD K ba (rNinU K w) (.str [c]) (.str l) τ Q := fun v u H Z θ R r g1 g2 k =>
  .inl ⟨c, l, g1.str, g2.str, k.now r (.bl _) q⟩
theorem d_ixL {xs : List D} {i : Int} {d : D} (hx : x.rs τ = .lst xs) (h : atI xs i = some d) (q : Q d τ) : RD K ba (rIxU K w) x (.int i) τ Q := fun v u H Z θ R r g1 g2 k => by
  obtain ⟨a, vs, rfl, n1, r1⟩ := rs_node r g1 hx
  obtain ⟨z, hz, rz⟩ := atI_rp r1 h
  exact .inl ⟨a, vs, i, z, rfl, g2.int, Evl.sq_of n1, hz, k.now r rz q⟩
theorem d_ixT {t : Tag} {xs : List D} (ht : t = .tup ∨ t = .ktup) {i : Int} {d : D} (hx : x.rs τ = .node t xs) (h : atI xs i = some d) (q : Q d τ) : RD K ba (rIxU K w) x (.int i) τ Q := fun v u H Z θ R r g1 g2 k => by
  obtain ⟨a, vs, rfl, n1, r1⟩ := rs_node r g1 hx
  obtain ⟨z, hz, rz⟩ := atI_rp r1 h
  exact .inr (.inl ⟨a, vs, i, z, rfl, g2.int, n1.sqT ht, hz, k.now r rz q⟩)
theorem d_ixS {l : List Nat} {i : Int} {c : Nat} (hl : l.length ≤ sizeLine) (h : atI l i = some c) (q : Q (.str [c]) τ) : RD K ba (rIxU K w) (.str l) (.int i) τ Q := fun v u H Z θ R r g1 g2 k => by
  rw [g1.str, g2.int]
  exact .inr (.inr (.inl ⟨l, i, c, rfl, rfl, hl, h, k.now r (.str _) q⟩))
theorem d_lenS {l : List Nat} (hl : l.length ≤ sizeLine) (q : Q (.int l.length) τ) : RC K ba (rLenU K) [.str l] τ Q := fun vs H Z θ R r g k => by
  cases g with
  | cons g1 g =>
    cases g
    rw [g1.str]
    exact .inl ⟨l, rfl, hl, k.now r (.int _) q⟩
theorem d_lenL {xs : List D} (hx : x.rs τ = .lst xs) (q : Q (.int xs.length) τ) : RC K ba (rLenU K) [x] τ Q := fun vs H Z θ R r g k => by
  cases g with
  | cons g1 g =>
    cases g
    obtain ⟨a, us, rfl, n1, r1⟩ := rs_node r g1 hx
    exact .inr (.inl ⟨a, us, rfl, .inl (Evl.sq_of n1), by rw [r1.length]; exact k.now r (.int _) q⟩)
theorem d_lenT {t : Tag} {xs : List D} (ht : t = .tup ∨ t = .ktup) (hx : x.rs τ = .node t xs) (q : Q (.int xs.length) τ) : RC K ba (rLenU K) [x] τ Q := fun vs H Z θ R r g k => by
  cases g with
  | cons g1 g =>
    cases g
    obtain ⟨a, us, rfl, n1, r1⟩ := rs_node r g1 hx
    exact .inr (.inl ⟨a, us, rfl, .inr (n1.sqT ht), by rw [r1.length]; exact k.now r (.int _) q⟩)
theorem d_lenK {ks : List Key} {xs : List D} (hx : x.rs τ = .dk ks xs) (q : Q (.int ks.length) τ) : RC K ba (rLenU K) [x] τ Q := fun vs H Z θ R r g k => by
  cases g with
  | cons g1 g =>
    cases g
    obtain ⟨a, us, rfl, ⟨n1, n2⟩, r1⟩ := rs_node r g1 hx
    exact .inr (.inr ⟨a, _, rfl, n1, by rw [List.length_zip, ← n2, Nat.min_self]; exact k.now r (.int _) q⟩)
/-- slices -/
def cutD (xs : List D) (lo hi : Option Int) : List D := (xs.drop (HT.sIx xs.length 0 lo)).take (HT.sIx xs.length xs.length hi - HT.sIx xs.length 0 lo)
theorem cut_rp {Z : Hp} {vs : List V} {xs : List D} {lo hi : Option Int} (r : RpA K Z vs xs) : RpA K Z (cutV vs lo hi) (cutD xs lo hi) := by
  unfold cutV cutD
  rw [r.length]
  exact (r.drop _).take _
theorem d_slS {l : List Nat} {lo hi : Option Int} (hl : l.length ≤ sizeLine) (q : Q (.str (cutL l lo hi)) τ) : RSl K ba (rSlU K) (.str l) lo hi τ Q := fun v H Z θ R r g k => by
  rw [g.str]
  exact .inl ⟨l, rfl, hl, k.now r (.str _) q⟩
theorem d_slL {xs : List D} {lo hi : Option Int} (hx : x.rs τ = .lst xs) (q : Q (.lst (cutD xs lo hi)) τ) : RSl K ba (rSlU K) x lo hi τ Q := fun v H Z θ R r g k => by
  obtain ⟨a, us, rfl, n1, r1⟩ := rs_node r g hx
  exact .inr (.inl ⟨a, us, rfl, Evl.sq_of n1, k.lay r (cut_rp r1) na_lst q⟩)
def D.isN : D → Bool
  | .non => true
  | _ => false
theorem isN_v {Z : Hp} {θ : List Addr} {v : V} (g1 : RpS K Z θ v x) (hx : ∀ v, x ≠ .raw v) : decide (v = V.non) = x.isN := by
  cases x with
  | non => rw [g1.non]; rfl
  | bl b => rw [g1.bl]; rfl
  | int b => rw [g1.int]; rfl
  | str b => rw [g1.str]; rfl
  | raw b => exact absurd rfl (hx b)
  | tk n => obtain ⟨a, rfl, _⟩ := g1.tk; rfl
  | node t xs => obtain ⟨a, _, rfl, _⟩ := g1.node; rfl
theorem d_isN (hx : ∀ v, x ≠ .raw v) (q : Q (.bl x.isN) τ) : RD K ba rIsN x .non τ Q := fun v u H Z θ R r g1 g2 k => ⟨g2.non, by
  rw [isN_v g1 hx]
  exact k.now r (.bl _) q⟩
theorem d_notN (hx : ∀ v, x ≠ .raw v) (q : Q (.bl (!x.isN)) τ) : RD K ba rNotN x .non τ Q := fun v u H Z θ R r g1 g2 k => ⟨g2.non, by
  rw [isN_v g1 hx]
  exact k.now r (.bl _) q⟩
/-- the name of a datum's built-in type -/
def D.ty : D → String
  | .non => "NoneType"
  | .bl _ => "bool"
  | .int _ => "int"
  | .str _ => "str"
  | .node .tup _ => "tuple"
  | .node .ktup _ => "tuple"
  | .node .lst _ => "list"
  | .node (.dk _) _ => "dict"
  | .node (.dt _) _ => "dict"
  | _ => "?"
def D.base : D → Bool
  | .raw _ => false
  | .tk _ => false
  | .node (.obj _ _) _ => false
  | _ => true
theorem ty_rs {x' : D} {v : V} {H Z : Hp} {θ : List Addr} (r : Rh K ba τ H Z θ) (h : RpS K Z θ v x) (e : x.rs τ = x') (hb : x'.base = true) : TyX K H v (.type x'.ty) := by
  cases x' with
  | raw _ => cases hb
  | tk _ => cases hb
  | node t xs =>
    obtain ⟨a, vs, rfl, n1, r1⟩ := rs_node r h e
    cases t with
    | lst => exact .base (.lst n1)
    | tup => exact .base (.tup n1)
    | ktup =>
      obtain ⟨o, its, n, n1, n2, _⟩ := n1
      exact .kTuple n1 n2
    | dk ks => exact .base (.dK n1.1)
    | dt ks => exact .base (.dT n1.1)
    | obj C ns => cases hb
  | non =>
    cases x with
    | non => rw [h.non]; exact .base .non
    | tk n =>
      rw [D.rs_tk] at e
      split at e <;> cases e
    | _ => cases e
  | bl b =>
    cases x with
    | bl b' =>
      injection (show D.bl b' = .bl b from e) with e
      subst e
      rw [h.bl]; exact .base (.bl _)
    | tk n =>
      rw [D.rs_tk] at e
      split at e <;> cases e
    | _ => cases e
  | int b =>
    cases x with
    | int b' =>
      injection (show D.int b' = .int b from e) with e
      subst e
      rw [h.int]; exact .base (.int _)
    | tk n =>
      rw [D.rs_tk] at e
      split at e <;> cases e
    | _ => cases e
  | str b =>
    cases x with
    | str b' =>
      injection (show D.str b' = .str b from e) with e
      subst e
      rw [h.str]; exact .base (.str _)
    | tk n =>
      rw [D.rs_tk] at e
      split at e <;> cases e
    | _ => cases e
theorem d_isi {x' : D} {m : String} {b : Bool} (hx : x.rs τ = x') (hb : x'.base = true) (hk : kitB x'.ty m = some b) (q : Q (.bl b) τ) : RC K ba (rIsi K) [x, .raw (.ty m)] τ Q := fun vs H Z θ R r g k => by
  cases g with
  | cons g1 g =>
    cases g with
    | cons g2 g =>
      cases g
      rw [g2.raw]
      exact ⟨_, .ty m, _, _, b, rfl, .ty m, ty_rs r g1 hx hb, kit_ty hk, k.now r (.bl _) q⟩
end
end Pu

set_option Elab.async false
set_option linter.all false
set_option maxRecDepth 100000
set_option maxHeartbeats 4000000
namespace Pu
open PySem PySem.Spec PyProof.Rows L2 Fg
/-! ### what is walked: a list, a tuple or a text, told when it has come -/
def iSeq (K : PySem.W.Frag) (tl : TE) : TI := fun σ H R => tl σ H fun x H1 => (∃ a, x = .ref a ∧ (∃ xs, SqL K H1 a xs) ∧ R (Itl K a) H1) ∨ (∃ a, x = .ref a ∧ (∃ xs, SqT K H1 a xs) ∧ R (Itt K a) H1) ∨ (∃ z, x = .str z ∧ R (Its z) H1)
theorem pi_seq {X : Cx} {tg l : Expr} {tl : TE} (hl : PE X l tl) : PI X tg l (iSeq X.K tl) := by
  refine ⟨fun pins s σ H R I h => ?_⟩
  refine thn (hl.run pins s σ H _ I h) fun v s1 ⟨x, H1, I1, r1, q1⟩ => ?_
  rcases q1 with ⟨a, e, ⟨xs, hq⟩, q⟩ | ⟨a, e, ⟨xs, hq⟩, q⟩ | ⟨z, e, q⟩
  · subst e
    cases r1
    obtain ⟨its, rv, p, hz⟩ := I1.list hq
    refine wpAny_pyIter_list p.isList ?_
    refine ⟨s1.heap.objs.size, [s1.heap.objs.size], _, _, H1, rfl, I1.kept (t' := s1.toks) fun b o e => Heap.get?_push_of_some _ e, turn_list a _, ⟨_, Heap.get?_push_size _ rfl, rfl, rfl⟩, fun b hb => ?_, q⟩
    have e : b = s1.heap.objs.size := by simpa using hb
    subst e
    exact I1.fpOk (Nat.le_refl _) (I1.hok.fresh (Nat.le_refl _))
  · subst e
    cases r1
    obtain ⟨its, rv, p, hz⟩ := I1.tuple hq
    refine wpAny_pyIter_tuple (show s1.heap.IsTuple a its.toArray from p) ?_
    refine ⟨s1.heap.objs.size, [s1.heap.objs.size], _, _, H1, rfl, I1.kept (t' := s1.toks) fun b o e => Heap.get?_push_of_some _ e, turn_tuple a _, ⟨_, Heap.get?_push_size _ rfl, rfl, rfl⟩, fun b hb => ?_, q⟩
    have e : b = s1.heap.objs.size := by simpa using hb
    subst e
    exact I1.fpOk (Nat.le_refl _) (I1.hok.fresh (Nat.le_refl _))
  · subst e
    obtain ⟨t, rfl⟩ := r1
    cases ha : z.cps.all (· < 128)
    · exact wpAny_pyIter_wide ha (pi_one (tk := s1.toks) I1 _ (turn_str _ z t "str_iterator" (.inr rfl)) ⟨_, Heap.get?_push_size _ rfl, rfl, rfl⟩ q)
    · exact wpAny_pyIter_ascii ha (pi_one (tk := s1.toks) I1 _ (turn_str _ z t "str_ascii_iterator" (.inl rfl)) ⟨_, Heap.get?_push_size _ rfl, rfl, rfl⟩ q)
/-- what an iterator hands out: n things, the i-th stands for f i; nothing but new things is laid -/
structure Gives {T : Tbs} (K : PySem.W.Frag) (ba : Ba T) (J : It) (n : Nat) (f : Nat → D) (G : Tau → Prop) (Z : Hp) (θ : List Addr) : Prop where
  go : ∀ i τ H Z' θ', Rh K ba τ H Z' θ' → Ex Z Z' → θ <+: θ' → G τ → i < n → J.go i H
  stop : ∀ τ H Z' θ', Rh K ba τ H Z' θ' → Ex Z Z' → θ <+: θ' → G τ → J.stop n H
  yld : ∀ i τ H Z' θ' x H', Rh K ba τ H Z' θ' → Ex Z Z' → θ <+: θ' → G τ → i < n → J.yld i H x H' → ∃ Z'', Rh K ba τ H' Z'' θ' ∧ Ex Z' Z'' ∧ Rp K Z'' x (f i)
/-- an iterator over n things f -/
def WI {T : Tbs} (K : PySem.W.Frag) (ba : Ba T) (wi : TI) (ρ : Rho) (τ : Tau) (Q : (n : Nat) → (Nat → D) → (Tau → Prop) → Tau → Prop) : Prop :=
  ∀ σ H Z θ (R : It → Hp → Prop), Rl K ba ρ τ σ H Z θ → (∀ J n f G H' Z' θ' τ', Rh K ba τ' H' Z' θ' → Ex Z Z' → θ <+: θ' → Gives K ba J n f G Z' θ' → Q n f G τ' → R J H') → wi σ H R
section
variable {K : PySem.W.Frag} {T : Tbs} {ba : Ba T} {ρ : Rho} {τ : Tau} {Q : DK} {P : En} {ta tb tc te tl : TE} {tb : TS} {tt : TT} {tA : TA} {i : Nat} {x y : D} {r : R2} {g : TG} {wi : TI}
def nth (xs : List D) (i : Nat) : D := xs.getD i .non
theorem nth_get {xs : List D} {i : Nat} (h : i < xs.length) : xs[i]? = some (nth xs i) := by
  unfold nth
  rw [List.getElem?_eq_getElem h, List.getD_eq_getElem?_getD, List.getElem?_eq_getElem h]
  rfl
theorem w_iSeq {Q : (n : Nat) → (Nat → D) → (Tau → Prop) → Tau → Prop} (q : WE K ba tl ρ τ fun x τ1 => (∃ t xs, (t = .lst ∨ t = .tup ∨ t = .ktup) ∧ x.rs τ1 = .node t xs ∧ Q xs.length (nth xs) (fun τ' => x.rs τ' = .node t xs) τ1) ∨ ∃ l : List Nat, x = .str l ∧ Q l.length (fun i => .str [l.getD i 0]) (fun _ => True) τ1) :
    WI K ba (iSeq K tl) ρ τ Q := fun σ H Z θ R I k => q σ H Z θ _ I fun v H1 Z1 θ1 d τ1 r1 e1 p1 h1 q1 => by
  rcases q1 with ⟨t, xs, ht, hx, q1⟩ | ⟨l, rfl, q1⟩
  · obtain ⟨a, vs, rfl, n1, s1⟩ := rs_node r1 h1 hx
    have key : ∀ τ' H' Z' θ', Rh K ba τ' H' Z' θ' → Ex Z1 Z' → θ1 <+: θ' → d.rs τ' = .node t xs → ∃ us, NodeAt K H' a us t ∧ RpA K Z' us xs := fun τ' H' Z' θ' r e p hg => by
      obtain ⟨a', us, e', n2, s2⟩ := rs_node r (h1.mono e p) hg
      injection e' with e'
      subst e'
      exact ⟨us, n2, s2⟩
    rcases ht with rfl | ht
    · refine .inl ⟨a, rfl, ⟨vs, Evl.sq_of n1⟩, k (Itl K a) xs.length (nth xs) _ H1 Z1 θ1 τ1 r1 e1 p1 ⟨fun i τ' H' Z' θ' r e p hg hi => ?_, fun τ' H' Z' θ' r e p hg => ?_, fun i τ' H' Z' θ' y H'' r e p hg hi hy => ?_⟩ q1⟩
      · obtain ⟨us, n2, s2⟩ := key τ' H' Z' θ' r e p hg
        exact ⟨us, us[i]'(by rw [s2.length]; exact hi), Evl.sq_of n2, List.getElem?_eq_getElem _⟩
      · obtain ⟨us, n2, s2⟩ := key τ' H' Z' θ' r e p hg
        exact ⟨us, Evl.sq_of n2, by rw [s2.length]; exact Nat.le_refl _⟩
      · obtain ⟨us, n2, s2⟩ := key τ' H' Z' θ' r e p hg
        obtain ⟨rfl, hy⟩ := hy
        obtain ⟨d', hd, hr⟩ := s2.get (hy us (Evl.sq_of n2))
        rw [nth_get hi] at hd
        injection hd with hd
        rw [hd]
        exact ⟨Z', r, Ex.rfl', hr⟩
    · refine .inr (.inl ⟨a, rfl, ⟨vs, n1.sqT ht⟩, k (Itt K a) xs.length (nth xs) _ H1 Z1 θ1 τ1 r1 e1 p1 ⟨fun i τ' H' Z' θ' r e p hg hi => ?_, fun τ' H' Z' θ' r e p hg => ?_, fun i τ' H' Z' θ' y H'' r e p hg hi hy => ?_⟩ q1⟩)
      · obtain ⟨us, n2, s2⟩ := key τ' H' Z' θ' r e p hg
        exact ⟨us, us[i]'(by rw [s2.length]; exact hi), n2.sqT ht, List.getElem?_eq_getElem _⟩
      · obtain ⟨us, n2, s2⟩ := key τ' H' Z' θ' r e p hg
        exact ⟨us, n2.sqT ht, by rw [s2.length]; exact Nat.le_refl _⟩
      · obtain ⟨us, n2, s2⟩ := key τ' H' Z' θ' r e p hg
        obtain ⟨rfl, hy⟩ := hy
        obtain ⟨d', hd, hr⟩ := s2.get (hy us (n2.sqT ht))
        rw [nth_get hi] at hd
        injection hd with hd
        rw [hd]
        exact ⟨Z', r, Ex.rfl', hr⟩
  · refine .inr (.inr ⟨S l, h1.str, k (Its (S l)) l.length _ _ H1 Z1 θ1 τ1 r1 e1 p1 ⟨fun i τ' H' Z' θ' r e p hg hi => ?_, fun τ' H' Z' θ' r e p hg => ?_, fun i τ' H' Z' θ' y H'' r e p hg hi hy => ?_⟩ q1⟩)
    · show i < (S l).cps.size
      simpa [S] using hi
    · show (S l).cps.size ≤ l.length
      simp [S]
    · obtain ⟨rfl, c, hc, rfl⟩ := hy
      refine ⟨Z', r, Ex.rfl', ?_⟩
      have hc' : l[i]? = some c := by simpa [S] using hc
      have : l.getD i 0 = c := by rw [List.getD_eq_getElem?_getD, hc']; rfl
      rw [this]
      exact .str [c]
theorem w_iRng1 {Q : (n : Nat) → (Nat → D) → (Tau → Prop) → Tau → Prop} (q : WA K ba tA ρ τ fun ds τ1 => ∃ n : Int, ds = [.int n] ∧ -1000000 ≤ n ∧ n ≤ 1000000 ∧ Q n.toNat (fun i => .int i) (fun _ => True) τ1) : WI K ba (iRng1 tA) ρ τ Q := fun σ H Z θ R I k =>
  q σ H Z θ _ I fun vs H1 Z1 θ1 ds τ1 r1 e1 p1 h1 ⟨n, hd, h2, h3, q1⟩ => by
    subst hd
    cases h1 with
    | cons g1 g =>
      cases g
      refine ⟨n, by rw [g1.int], by omega, by omega, k (Itr 0 n.toNat) n.toNat _ _ H1 Z1 θ1 τ1 r1 e1 p1 ⟨fun i _ _ _ _ _ _ _ _ hi => hi, fun _ _ _ _ _ _ _ _ => Nat.le_refl _, fun i τ' H' Z' θ' y H'' r e p hg hi hy => ?_⟩ q1⟩
      obtain ⟨rfl, rfl⟩ := hy
      exact ⟨Z', r, Ex.rfl', by rw [Int.zero_add]; exact .int _⟩
theorem w_iRng2 {Q : (n : Nat) → (Nat → D) → (Tau → Prop) → Tau → Prop} (q : WA K ba tA ρ τ fun ds τ1 => ∃ m n : Int, ds = [.int m, .int n] ∧ (-1000000 ≤ m ∧ m ≤ 1000000) ∧ (-1000000 ≤ n ∧ n ≤ 1000000) ∧ Q (n - m).toNat (fun i => .int (m + i)) (fun _ => True) τ1) : WI K ba (iRng2 tA) ρ τ Q := fun σ H Z θ R I k =>
  q σ H Z θ _ I fun vs H1 Z1 θ1 ds τ1 r1 e1 p1 h1 ⟨m, n, hd, h2, h3, q1⟩ => by
    subst hd
    cases h1 with
    | cons g1 g =>
      cases g with
      | cons g2 g =>
        cases g
        refine ⟨m, n, by rw [g1.int, g2.int], ⟨by omega, by omega, by omega, by omega⟩, k (Itr m (n - m).toNat) (n - m).toNat _ _ H1 Z1 θ1 τ1 r1 e1 p1 ⟨fun i _ _ _ _ _ _ _ _ hi => hi, fun _ _ _ _ _ _ _ _ => Nat.le_refl _, fun i τ' H' Z' θ' y H'' r e p hg hi hy => ?_⟩ q1⟩
        obtain ⟨rfl, rfl⟩ := hy
        exact ⟨Z', r, Ex.rfl', .int _⟩
/-- a loop, by what holds behind i turns -/
theorem w_for (J : Nat → Rho → Tau → Prop) (q : WI K ba wi ρ τ fun n f G τ1 => J 0 ρ τ1 ∧ (∀ i ρ' τ', i ≤ n → J i ρ' τ' → G τ') ∧ (∀ i ρ' τ', i < n → J i ρ' τ' → WG K ba g (f i) ρ' τ' fun ρ2 τ2 => WS K ba tb ρ2 τ2 { P with nx := J (i + 1), ct := J (i + 1), bk := P.nx }) ∧ ∀ ρ' τ', J n ρ' τ' → P.nx ρ' τ') :
    WS K ba (tFor wi g tb) ρ τ P := fun σ H Z θ De I F => q σ H Z θ _ I fun J0 n f G H1 Z1 θ1 τ1 r1 e1 p1 gv ⟨j0, jg, js, jd⟩ => by
  refine ⟨fun i m σ' H' => m = n - i ∧ i ≤ n ∧ ∃ ρ' τ' Z' θ', Rl K ba ρ' τ' σ' H' Z' θ' ∧ Ex Z1 Z' ∧ θ1 <+: θ' ∧ J i ρ' τ', ⟨n, rfl, Nat.zero_le _, ρ, τ1, Z1, θ1, I.with r1 e1 p1, Ex.rfl', pre_rfl, j0⟩, fun i m σ' H' ⟨hm, hi, ρ', τ', Z', θ', I', e', p', j'⟩ => ?_⟩
  by_cases hin : i = n
  · subst hin
    exact .inl ⟨gv.stop τ' H' Z' θ' I'.rh e' p' (jg _ _ _ hi j'), F.nx _ _ _ _ _ _ I' (e1.trans e') (p1.trans p') (jd ρ' τ' j')⟩
  · have hi' : i < n := by omega
    refine .inr ⟨gv.go i τ' H' Z' θ' I'.rh e' p' (jg _ _ _ hi j') hi', fun σ2 H2 => ∃ ρ2 τ2 Z2 θ2, Rl K ba ρ2 τ2 σ2 H2 Z2 θ2 ∧ Ex Z1 Z2 ∧ θ1 <+: θ2 ∧ J (i + 1) ρ2 τ2, fun σ2 H2 h2 => ⟨n - (i + 1), by omega, rfl, hi', h2⟩, fun y H2 hy => ?_⟩
    obtain ⟨Z2, r2, e2, hr⟩ := gv.yld i τ' H' Z' θ' y H2 I'.rh e' p' (jg _ _ _ hi j') hi' hy
    refine js i ρ' τ' hi' j' y σ' H2 Z2 θ' _ (I'.with r2 e2 pre_rfl) (.inr hr) fun ρ3 τ3 σ3 H3 Z3 θ3 I3 e3 p3 q3 => ?_
    have eZ := (e'.trans e2).trans e3
    have pT := p'.trans p3
    refine q3 σ3 H3 Z3 θ3 _ I3 ⟨fun ρ4 τ4 σ4 H4 Z4 θ4 I4 e4 p4 q4 => ⟨ρ4, τ4, Z4, θ4, I4, eZ.trans e4, pT.trans p4, q4⟩, ?_, ?_, fun ρ4 τ4 σ4 H4 Z4 θ4 I4 e4 p4 q4 => ⟨ρ4, τ4, Z4, θ4, I4, eZ.trans e4, pT.trans p4, q4⟩⟩
    · exact F.rt.step (e1.trans eZ) (p1.trans pT)
    · exact F.nx.step (e1.trans eZ) (p1.trans pT)
/-- a while loop, by what holds and a number that falls -/
theorem w_while {c : TT} (W : Nat → Rho → Tau → Prop) (h0 : ∃ m, W m ρ τ) (hs : ∀ m ρ' τ', W m ρ' τ' → WT K ba c ρ' τ' fun b τ1 => if b = true then WS K ba tb ρ' τ1 { P with nx := fun ρ2 τ2 => ∃ m', m' < m ∧ W m' ρ2 τ2, ct := fun ρ2 τ2 => ∃ m', m' < m ∧ W m' ρ2 τ2, bk := P.nx } else P.nx ρ' τ1) :
    WS K ba (tWhile c tb) ρ τ P := fun σ H Z θ De I F => by
  obtain ⟨m0, w0⟩ := h0
  refine ⟨fun m σ' H' => ∃ ρ' τ' Z' θ', Rl K ba ρ' τ' σ' H' Z' θ' ∧ Ex Z Z' ∧ θ <+: θ' ∧ W m ρ' τ', ⟨m0, ρ, τ, Z, θ, I, Ex.rfl', pre_rfl, w0⟩, fun m σ' H' ⟨ρ', τ', Z', θ', I', e', p', w'⟩ => ?_⟩
  refine hs m ρ' τ' w' σ' H' Z' θ' _ I' fun b H2 Z2 θ2 τ2 r2 e2 p2 q2 => ?_
  have I2 := I'.with r2 e2 p2
  have eZ := e'.trans e2
  have pT := p'.trans p2
  cases b with
  | false => exact F.nx _ _ _ _ _ _ I2 eZ pT q2
  | true =>
    refine ⟨fun σ3 H3 => ∃ m', m' < m ∧ ∃ ρ' τ' Z' θ', Rl K ba ρ' τ' σ3 H3 Z' θ' ∧ Ex Z Z' ∧ θ <+: θ' ∧ W m' ρ' τ', fun _ _ h => h, ?_⟩
    refine q2 σ' H2 Z2 θ2 _ I2 ⟨fun ρ4 τ4 σ4 H4 Z4 θ4 I4 e4 p4 ⟨m', hm, q4⟩ => ⟨m', hm, ρ4, τ4, Z4, θ4, I4, eZ.trans e4, pT.trans p4, q4⟩, F.rt.step eZ pT, F.nx.step eZ pT, fun ρ4 τ4 σ4 H4 Z4 θ4 I4 e4 p4 ⟨m', hm, q4⟩ => ⟨m', hm, ρ4, τ4, Z4, θ4, I4, eZ.trans e4, pT.trans p4, q4⟩⟩
end
end Pu

set_option Elab.async false
set_option linter.all false
set_option maxRecDepth 100000
set_option maxHeartbeats 4000000
namespace Pu
open PySem PySem.Spec PyProof.Rows L2 Fg
/-! ### comprehensions -/
def wipeD (ρ : Rho) : List Nat → Rho
  | [] => ρ
  | v :: vs => (wipeD ρ vs).set v none
section
variable {K : PySem.W.Frag} {T : Tbs} {ba : Ba T} {ρ : Rho} {τ : Tau} {Q : DK} {te : TE} {tt : TT} {i : Nat} {x y : D} {g : TG} {gs : TGs} {wi : TI} {vs : List Nat}
theorem Rl.wipe {σ : L2.St} {H Z : Hp} {θ : List Addr} (h : Rl K ba ρ τ σ H Z θ) : ∀ vs, Rl K ba (wipeD ρ vs) τ (wipe σ vs) H Z θ
  | [] => h
  | v :: vs => (Rl.wipe h vs).unset v
theorem set_comm' {α : Type} (l : List α) (i j : Nat) (x y : α) (h : i ≠ j) : (l.set i x).set j y = (l.set j y).set i x := by
  rw [List.set_comm]
  exact h
theorem wipe_set {σ : L2.St} {i : Nat} {x : Option V} : ∀ {vs : List Nat}, i ∈ vs → wipe (σ.set i x) vs = wipe σ vs
  | v :: vs, h => by
    unfold wipe
    by_cases hv : i ∈ vs
    · rw [wipe_set hv]
    · have e : i = v := by
        rcases List.mem_cons.mp h with h | h
        · exact h
        · exact absurd h hv
      subst e
      have key : ∀ {us : List Nat}, i ∉ us → wipe (σ.set i x) us = (wipe σ us).set i x := by
        intro us hu
        induction us with
        | nil => rfl
        | cons u us ih =>
          rw [List.mem_cons, not_or] at hu
          unfold wipe
          rw [ih hu.2, set_comm' _ _ _ _ _ hu.1]
      rw [key hv, List.set_set]
theorem wipe_idem {σ : L2.St} : ∀ {vs : List Nat} (us : List Nat), (∀ u ∈ us, u ∈ vs) → wipe (wipe σ us) vs = wipe σ vs
  | _, [], _ => rfl
  | vs, u :: us, h => by
    show wipe ((wipe σ us).set u none) vs = _
    rw [wipe_set (h u (List.mem_cons_self ..)), wipe_idem us fun z hz => h z (List.mem_cons_of_mem _ hz)]
/-- a target whose names are the block's own -/
def WGv {T : Tbs} (K : PySem.W.Frag) (ba : Ba T) (g : TG) (vs : List Nat) (x : D) (ρ : Rho) (τ : Tau) (Q : Rho → Tau → Prop) : Prop :=
  ∀ v σ H Z θ (R : L2.St → Hp → Prop), Rl K ba ρ τ σ H Z θ → RpS K Z θ v x → (∀ ρ' τ' σ' H' Z' θ', Rl K ba ρ' τ' σ' H' Z' θ' → Ex Z Z' → θ <+: θ' → wipe σ' vs = wipe σ vs → Q ρ' τ' → R σ' H') → g v σ H R
def WGvs {T : Tbs} (K : PySem.W.Frag) (ba : Ba T) (g : TGs) (vs : List Nat) (xs : List D) (ρ : Rho) (τ : Tau) (Q : Rho → Tau → Prop) : Prop :=
  ∀ us σ H Z θ (R : L2.St → Hp → Prop), Rl K ba ρ τ σ H Z θ → RpA K Z us xs → (∀ ρ' τ' σ' H' Z' θ', Rl K ba ρ' τ' σ' H' Z' θ' → Ex Z Z' → θ <+: θ' → wipe σ' vs = wipe σ vs → Q ρ' τ' → R σ' H') → g us σ H R
theorem gv_name {Q : Rho → Tau → Prop} (h : i ∈ vs) (q : Q (ρ.set i (some x)) τ) : WGv K ba (gName i) vs x ρ τ Q := fun v σ H Z θ R I g k => k _ _ _ _ _ _ (I.set g i) Ex.rfl' pre_rfl (wipe_set h) q
theorem gv_nil {Q : Rho → Tau → Prop} (q : Q ρ τ) : WGvs K ba gNil vs [] ρ τ Q := fun us σ H Z θ R I g k => by
  cases g
  exact ⟨rfl, k _ _ _ _ _ _ I Ex.rfl' pre_rfl rfl q⟩
theorem gv_cons {Q : Rho → Tau → Prop} {xs : List D} (q : WGv K ba g vs x ρ τ fun ρ1 τ1 => WGvs K ba gs vs xs ρ1 τ1 Q) : WGvs K ba (gCons g gs) vs (x :: xs) ρ τ Q := fun us σ H Z θ R I h k => by
  cases h with
  | cons h1 h2 =>
    exact ⟨_, _, rfl, q _ σ H Z θ _ I (.inr h1) fun ρ1 τ1 σ1 H1 Z1 θ1 I1 e1 p1 w1 q1 => q1 _ σ1 H1 Z1 θ1 R I1 (h2.mono e1) fun ρ2 τ2 σ2 H2 Z2 θ2 I2 e2 p2 w2 q2 => k _ _ _ _ _ _ I2 (e1.trans e2) (p1.trans p2) (w2.trans w1) q2⟩
theorem tup_at {Z H : Hp} {θ : List Addr} {v : V} {xs : List D} (r : Rh K ba τ H Z θ) (h : RpS K Z θ v (.tup xs)) : ∃ a us, v = .ref a ∧ SqT K H a us ∧ RpA K Z us xs := by
  obtain ⟨a, us, e, n1, r1⟩ := rs_node r h rfl
  exact ⟨a, us, e, NodeAt.sqT (t := .tup) (.inl rfl) n1, r1⟩
theorem gv_tup {Q : Rho → Tau → Prop} {xs : List D} {n : Nat} (hn : xs.length = n) (q : WGvs K ba gs vs xs ρ τ Q) : WGv K ba (gTup K n gs) vs (.tup xs) ρ τ Q := fun v σ H Z θ R I h k => by
  obtain ⟨a, us, rfl, n1, r1⟩ := tup_at I.rh h
  exact ⟨a, us, rfl, n1, by rw [r1.length, hn], q us σ H Z θ R I r1 k⟩
theorem w_gnil {Q : Rho → Tau → Prop} (q : Q ρ τ) : WGs K ba gNil [] ρ τ Q := fun us σ H Z θ R I g k => by
  cases g
  exact ⟨rfl, k _ _ _ _ _ _ I Ex.rfl' pre_rfl q⟩
theorem w_gcons {Q : Rho → Tau → Prop} {xs : List D} (q : WG K ba g x ρ τ fun ρ1 τ1 => WGs K ba gs xs ρ1 τ1 Q) : WGs K ba (gCons g gs) (x :: xs) ρ τ Q := fun us σ H Z θ R I h k => by
  cases h with
  | cons h1 h2 =>
    exact ⟨_, _, rfl, q _ σ H Z θ _ I h1 fun ρ1 τ1 σ1 H1 Z1 θ1 I1 e1 p1 q1 => q1 _ σ1 H1 Z1 θ1 R I1 (h2.mono e1 p1) (k.step e1 p1)⟩
theorem RpSA.of {Z : Hp} {θ : List Addr} : ∀ {us : List V} {xs : List D}, RpA K Z us xs → RpSA K Z θ us xs
  | _, _, .nil => .nil
  | _, _, .cons h r => .cons (.inr h) (RpSA.of r)
theorem w_gtup {Q : Rho → Tau → Prop} {xs : List D} {n : Nat} (hn : xs.length = n) (q : WGs K ba gs xs ρ τ Q) : WG K ba (gTup K n gs) (.tup xs) ρ τ Q := fun v σ H Z θ R I h k => by
  obtain ⟨a, us, rfl, n1, r1⟩ := tup_at I.rh h
  exact ⟨a, us, rfl, n1, by rw [r1.length, hn], q us σ H Z θ R I (.of r1) k⟩
/-- the cell behind all others -/
theorem last_at {τ : Tau} {θ : List Addr} {c : Cl} {D0 : Addr} (hl : θ.length = τ.length) : (τ ++ [c])[τ.length]? = some c ∧ (θ ++ [D0])[τ.length]? = some D0 := by
  constructor
  · rw [List.getElem?_append_right (Nat.le_refl _), Nat.sub_self]
    rfl
  · rw [List.getElem?_append_right (by omega), hl, Nat.sub_self]
    rfl
theorem set_last {τ : Tau} {c d : Cl} : (τ ++ [c]).set τ.length d = τ ++ [d] := by
  rw [List.set_append_right _ _ (Nat.le_refl _), Nat.sub_self]
  rfl
theorem same_pre {θ θ' : List Addr} (p : θ <+: θ') (h : θ'.length = θ.length) : θ' = θ := (List.IsPrefix.eq_of_length p h.symm).symm
/-- the hidden cell is closed and becomes the value -/
theorem Rh.fin {H Z : Hp} {θ : List Addr} {t : Tag} {xs : List D} {D0 : Addr} (hb : ba.θ.length ≤ τ.length) (hl : θ.length = τ.length) (r : Rh K ba (τ ++ [.nd t xs]) H Z (θ ++ [D0])) : ∃ Z', Rh K ba τ H Z' θ ∧ Ex Z Z' ∧ Rp K Z' (.ref D0) (.node t xs) := by
  obtain ⟨h1, h2⟩ := last_at (c := .nd t xs) (D0 := D0) hl
  obtain ⟨Z', r', e, hr, _⟩ := r.freeze h1 h2
  rw [set_last] at r'
  have r2 := r'.drop hb
  rw [← hl, List.take_left' rfl] at r2
  exact ⟨Z', r2, e, hr⟩
theorem w_lc (J : Nat → List D → Prop) (q : WI K ba wi ρ τ fun n f G τ1 => n ≤ 1000000 ∧ (∀ acc, G (τ1 ++ [.lst acc])) ∧ J 0 [] ∧ (∀ i acc, i < n → acc.length ≤ i → J i acc → WGv K ba g vs (f i) (wipeD ρ vs) (τ1 ++ [.lst acc]) fun ρ2 τ2 => τ2 = τ1 ++ [.lst acc] ∧
      WT K ba tt ρ2 τ2 fun b τ3 => τ3 = τ1 ++ [.lst acc] ∧ if b = true then WE K ba te ρ2 τ3 fun d τ4 => τ4 = τ1 ++ [.lst acc] ∧ notk [d] = true ∧ J (i + 1) (acc ++ [d]) else J (i + 1) acc) ∧ ∀ acc, acc.length ≤ n → J n acc → Q (.lst acc) τ1) :
    WE K ba (tLc wi g tt te vs) ρ τ Q := fun σ H Z θ R I k => q σ H Z θ _ I fun J0 n f G H1 Z1 θ1 τ1 r1 e1 p1 gv ⟨hn, jg, j0, js, jd⟩ D0 hD => by
  have hl := r1.len
  refine ⟨fun i m H' => m = n - i ∧ i ≤ n ∧ ∃ acc Z', Rh K ba (τ1 ++ [.lst acc]) H' Z' (θ1 ++ [D0]) ∧ Ex Z1 Z' ∧ acc.length ≤ i ∧ J i acc, ⟨n, rfl, Nat.zero_le _, [], Z1, r1.cellNew (t := .lst) hD rfl .nil, Ex.rfl', Nat.le_refl _, j0⟩, fun i m H' ⟨hm, hi, acc, Z', r', e', ha, j'⟩ => ?_⟩
  have p' : θ1 <+: θ1 ++ [D0] := List.prefix_append _ _
  by_cases hin : i = n
  · subst hin
    refine .inl ⟨gv.stop _ _ _ _ r' e' p' (jg acc), ?_⟩
    obtain ⟨Z2, r2, e2, hr⟩ := Rh.fin (by rw [← hl]; exact r1.bt.length_le) hl r'
    exact k _ _ _ _ _ _ r2 ((e1.trans e').trans e2) p1 (.inr hr) (jd acc ha j')
  · have hi' : i < n := by omega
    refine .inr ⟨gv.go i _ _ _ _ r' e' p' (jg acc) hi', fun H2 => ∃ acc Z', Rh K ba (τ1 ++ [.lst acc]) H2 Z' (θ1 ++ [D0]) ∧ Ex Z1 Z' ∧ acc.length ≤ i + 1 ∧ J (i + 1) acc, fun H2 h2 => ⟨n - (i + 1), by omega, rfl, hi', h2⟩, fun y H2 hy => ?_⟩
    obtain ⟨Z2, r2, e2, hr⟩ := gv.yld i _ _ _ _ y H2 r' e' p' (jg acc) hi' hy
    have I2 : Rl K ba (wipeD ρ vs) (τ1 ++ [.lst acc]) (wipe σ vs) H2 Z2 (θ1 ++ [D0]) := (I.wipe vs).with r2 ((e1.trans e').trans e2) (p1.trans p')
    refine js i acc hi' ha j' y _ H2 Z2 _ _ I2 (.inr hr) fun ρ3 τ3 σ3 H3 Z3 θ3 I3 e3 p3 w3 ⟨t3, q3⟩ => ?_
    subst t3
    have h3 : θ3 = θ1 ++ [D0] := same_pre p3 (by rw [I3.len, List.length_append, List.length_append, hl]; rfl)
    subst h3
    refine ⟨w3.trans (wipe_idem vs fun _ h => h), q3 σ3 H3 Z3 _ _ I3 fun b H4 Z4 θ4 τ4 r4 e4 p4 ⟨t4, q4⟩ => ?_⟩
    subst t4
    have h4 : θ4 = θ1 ++ [D0] := same_pre p4 (by rw [r4.len, List.length_append, List.length_append, hl]; rfl)
    subst h4
    have eZ := ((e'.trans e2).trans e3).trans e4
    cases b with
    | false => exact ⟨acc, Z4, r4, eZ, by omega, q4⟩
    | true =>
      refine q4 σ3 H4 Z4 _ _ (I3.with r4 e4 p4) fun z H5 Z5 θ5 d τ5 r5 e5 p5 h5 ⟨t5, nk, j5⟩ => ?_
      subst t5
      have h6 : θ5 = θ1 ++ [D0] := same_pre p5 (by rw [r5.len, List.length_append, List.length_append, hl]; rfl)
      subst h6
      obtain ⟨c1, c2⟩ := last_at (c := .lst acc) (D0 := D0) hl
      obtain ⟨_, us, o, ho, hk, hu⟩ := r5.cell _ _ _ c2 c1
      have ho' : o = .lst us := hk
      subst ho'
      have hd : Rp K Z5 z d := h5.rp (by
        intro m z
        subst z
        cases nk)
      refine ⟨us, ho, by rw [hu.length, sizeLine_eq]; omega, acc ++ [d], Z5, ?_, eZ.trans e5, by rw [List.length_append, List.length_singleton]; omega, j5⟩
      have := r5.cellSet (t := .lst) (o := .lst (us ++ [z])) c1 rfl c2 rfl (hu.append (.one hd))
      rw [set_last] at this
      exact this
/-- .. whose value is a function of the thing -/
theorem w_lcMap {n0 : Nat} {f0 : Nat → D} (h : Nat → D) (q : WI K ba wi ρ τ fun n f G τ1 => n = n0 ∧ n ≤ 1000000 ∧ (∀ acc, G (τ1 ++ [.lst acc])) ∧ (∀ i acc, i < n → WGv K ba g vs (f i) (wipeD ρ vs) (τ1 ++ [.lst acc]) fun ρ2 τ2 => τ2 = τ1 ++ [.lst acc] ∧
      WE K ba te ρ2 τ2 fun d τ4 => τ4 = τ1 ++ [.lst acc] ∧ notk [d] = true ∧ d = h i) ∧ Q (.lst ((List.range n).map h)) τ1) :
    WE K ba (tLc wi g tYes te vs) ρ τ Q := w_lc (fun i acc => acc = (List.range i).map h) fun σ H Z θ R I k => q σ H Z θ R I fun J n f G H' Z' θ' τ' r e p gv ⟨_, hn, hg, hs, hq⟩ => k J n f G H' Z' θ' τ' r e p gv ⟨hn, hg, rfl, fun i acc hi _ ha => fun v σ H Z θ R I g k => hs i acc hi v σ H Z θ R I g fun ρ2 τ2 σ2 H2 Z2 θ2 I2 e2 p2 w2 ⟨t2, q2⟩ =>
      k ρ2 τ2 σ2 H2 Z2 θ2 I2 e2 p2 w2 ⟨t2, w_yes ⟨t2, fun σ3 H3 Z3 θ3 R3 I3 k3 => q2 σ3 H3 Z3 θ3 R3 I3 fun v4 H4 Z4 θ4 d4 τ4 r4 e4 p4 h4 ⟨t4, n4, q4⟩ => k3 v4 H4 Z4 θ4 d4 τ4 r4 e4 p4 h4 ⟨t4, n4, by rw [ha, q4, List.range_succ, List.map_append]; rfl⟩⟩⟩, fun acc _ ha => by rw [ha]; exact hq⟩
end
end Pu

set_option Elab.async false
set_option linter.all false
set_option maxRecDepth 100000
set_option maxHeartbeats 4000000
namespace Pu
open PySem PySem.Spec PyProof.Rows L2 Fg
/-! ### what a def promises, by data -/
/-- what is wanted of an error: its class, its fields -/
abbrev XD := Addr → List Str → List D → Tau → Prop
abbrev SpD := List D → Tau → DK → XD → Prop
def CoX {T : Tbs} (K : PySem.W.Frag) (ba : Ba T) (Z : Hp) (θ : List Addr) (Ed : XD) (E : XK) : Prop := ∀ C d ns us xs H' Z' θ' τ', Rh K ba τ' H' Z' θ' → Ex Z Z' → θ <+: θ' → Z' d = some (.xd (List.zip ns us)) → ns.length = us.length → RpA K Z' us xs → Ed C ns xs τ' → E (.ref C) (some d) H'
def mkSp (K : PySem.W.Frag) (T : Tbs) (sp : SpD) : Sp := fun vs H Q E => ∃ (ba : Ba T) (ds : List D) (τ : Tau) (Z : Hp) (θ : List Addr) (Qd : DK) (Ed : XD), Rh K ba τ H Z θ ∧ RpSA K Z θ vs ds ∧ sp ds τ Qd Ed ∧ Co K ba Z θ Qd Q ∧ CoX K ba Z θ Ed E
/-- an answer with the cells that were there before (and more, if told) -/
def Out (n : Nat) (Qd : DK) : DK := fun d τ' => ∃ τ0 ex, τ' = τ0 ++ ex ∧ n ≤ τ0.length ∧ (∀ m, d = .tk m → m < τ0.length) ∧ Qd d τ0
def OutX (n : Nat) (Ed : XD) : XD := fun C ns xs τ' => ∃ τ0 ex, τ' = τ0 ++ ex ∧ n ≤ τ0.length ∧ Ed C ns xs τ0
def startD (N : List Str) (ds : List D) : Rho := ds.map some ++ List.replicate (N.length - ds.length) none
section
variable {K : PySem.W.Frag} {T : Tbs} {ba bb : Ba T} {ρ : Rho} {τ : Tau} {Q : DK} {P : En} {ta te : TE} {tA : TA} {t : TS} {H Z : Hp} {θ : List Addr} {σ : L2.St}
theorem Rh.rebase (r : Rh K bb τ H Z θ) (e : Ex ba.Z Z) (p : ba.θ <+: θ) : Rh K ba τ H Z θ := ⟨r.ex, e, p, r.tabs, r.ntb, r.len, r.cell, r.ne⟩
theorem Rl.rebase (r : Rl K bb ρ τ σ H Z θ) (e : Ex ba.Z Z) (p : ba.θ <+: θ) : Rl K ba ρ τ σ H Z θ := ⟨r.rh.rebase e p, r.sl, r.at_⟩
theorem start_rl {N : List Str} {vs : List V} {ds : List D} (r : Rh K ba τ H Z θ) (h : RpSA K Z θ vs ds) : Rl K ba (startD N ds) τ (L2.start N vs) H Z θ := by
  refine ⟨r, by unfold L2.start startD; simp [h.length], fun i d q => ?_⟩
  unfold startD at q
  unfold L2.start
  by_cases hi : i < ds.length
  · rw [List.getElem?_append_left (by simpa using hi)] at q
    rw [List.getElem?_append_left (by rw [List.length_map, h.length]; exact hi)]
    rw [List.getElem?_map] at q ⊢
    clear r
    induction h generalizing i with
    | nil => simp at hi
    | cons h1 h2 ih =>
      cases i with
      | zero =>
        simp at q
        subst q
        exact ⟨_, rfl, h1⟩
      | succ i =>
        have := ih i (by simpa using q) (by simpa using hi)
        simpa using this
  · rw [List.getElem?_append_right (by simpa using hi)] at q
    rw [List.getElem?_replicate] at q
    split at q
    · simp at q
    · cases q
theorem out_co {n : Nat} {Qd : DK} {Q : VK} (hn : θ.length = n) (hb : ba.θ <+: θ) (c : Co K ba Z θ Qd Q) (e0 : Ex ba.Z Z) : Co K (⟨Z, θ⟩ : Ba T) Z θ (Out n Qd) Q := fun v H' Z' θ' d τ' r e p h ⟨τ0, ex, ht, hl, hk, q⟩ => by
  subst ht
  have r2 := r.drop (τ := τ0) (by show θ.length ≤ τ0.length; omega)
  have p2 : θ <+: θ'.take τ0.length := List.prefix_take_iff.mpr ⟨p, by omega⟩
  refine c v H' Z' (θ'.take τ0.length) d τ0 (r2.rebase (e0.trans e) (hb.trans p2)) e p2 ?_ q
  rcases h with ⟨m, a, h1, h2, h3⟩ | h
  · refine .inl ⟨m, a, h1, ?_, h3⟩
    rw [List.getElem?_take, if_pos (hk m h1)]
    exact h2
  · exact .inr h
theorem outX_co {n : Nat} {Ed : XD} {E : XK} (hn : θ.length = n) (hb : ba.θ <+: θ) (c : CoX K ba Z θ Ed E) (e0 : Ex ba.Z Z) : CoX K (⟨Z, θ⟩ : Ba T) Z θ (OutX n Ed) E := fun C d ns us xs H' Z' θ' τ' r e p h1 h2 h3 ⟨τ0, ex, ht, hl, q⟩ => by
  subst ht
  have r2 := r.drop (τ := τ0) (by show θ.length ≤ τ0.length; omega)
  have p2 : θ <+: θ'.take τ0.length := List.prefix_take_iff.mpr ⟨p, by omega⟩
  exact c C d ns us xs H' Z' (θ'.take τ0.length) τ0 (r2.rebase (e0.trans e) (hb.trans p2)) e p2 h1 h2 h3 q
end
section
variable {P : Program} {w : World} {K : PySem.W.Frag} {T : Tbs} {mg : Str → Option Value} {base : Heap}
/-- what is wanted behind a def's body -/
def endD (τ : Tau) (Qd : DK) : En := { nx := fun _ τ' => Out τ.length Qd .non τ', rt := Out τ.length Qd }
theorem canD0 {x : Str} {st : Stmt} {N ps : List Str} {k : Nat} {sp : SpD} (F : Defd K mg x st ps) (S : FnScope N ps (defScope st)) (len : ∀ ds τ Q E, sp ds τ Q E → ds.length = ps.length)
    (hbody : ∀ (f : Addr) (cdv : Value) (A : Around) (outer : List Env) (s : Shared) (H : Hp) (E : XK) (ba : Ba T) (ds : List D) (τ : Tau) (Qd : DK) (Ed : XD), Room k (A.deeper (envOfC x (defScope st) s.heap.objs.size f cdv)) → sp ds τ Qd Ed →
      ∃ t, PSs (cxOf L2.CX0 P w K mg base N x (defScope st) f cdv A outer s H E).nox (defBody st) t ∧ WS K ba t (startD N ds) τ (endD τ Qd)) : Can P w K mg base L2.CX0 (k + 1) x ps (mkSp K T sp) :=
  can0 F S (fun vs H Q E ⟨ba, ds, τ, Z, θ, Qd, Ed, _, h, q, _⟩ => by rw [h.length]; exact len _ _ _ _ q) fun f cdv A outer s H vs Q E hr ⟨ba, ds, τ, Z, θ, Qd, Ed, r, h, q, c, _⟩ => by
    obtain ⟨t, h1, h2⟩ := hbody f cdv A outer s H E ⟨Z, θ⟩ ds τ Qd Ed hr q
    have co := out_co r.len r.bt c r.bz
    refine ⟨t, h1, h2 _ H Z θ _ (start_rl (r.rebase Ex.rfl' pre_rfl) h) ⟨fun ρ' τ' σ' H' Z' θ' I e p q => co _ _ _ _ _ _ I.rh e p (.inr .non) q, co, fun _ _ _ _ _ _ _ _ _ z => z.elim, fun _ _ _ _ _ _ _ _ _ z => z.elim⟩⟩
theorem canDX {x : Str} {st : Stmt} {N ps : List Str} {k : Nat} {sp : SpD} (F : Defd K mg x st ps) (S : FnScope N ps (defScope st)) (len : ∀ ds τ Q E, sp ds τ Q E → ds.length = ps.length)
    (hbody : ∀ (f : Addr) (cdv : Value) (A : Around) (outer : List Env) (s : Shared) (H : Hp) (E : XK) (ba : Ba T) (ds : List D) (τ : Tau) (Qd : DK) (Ed : XD), Room k (A.deeper (envOfC x (defScope st) s.heap.objs.size f cdv)) → sp ds τ Qd Ed → CoX K ba ba.Z ba.θ (OutX τ.length Ed) E →
      ∃ t, PSs (cxOf (L2.CX P w) P w K mg base N x (defScope st) f cdv A outer s H E) (defBody st) t ∧ WS K ba t (startD N ds) τ (endD τ Qd)) : Can P w K mg base (L2.CX P w) (k + 1) x ps (mkSp K T sp) :=
  canX F S (fun vs H Q E ⟨ba, ds, τ, Z, θ, Qd, Ed, _, h, q, _⟩ => by rw [h.length]; exact len _ _ _ _ q) fun f cdv A outer s H vs Q E hr ⟨ba, ds, τ, Z, θ, Qd, Ed, r, h, q, c, cx⟩ => by
    obtain ⟨t, h1, h2⟩ := hbody f cdv A outer s H E ⟨Z, θ⟩ ds τ Qd Ed hr q (outX_co r.len r.bt cx r.bz)
    have co := out_co r.len r.bt c r.bz
    refine ⟨t, h1, h2 _ H Z θ _ (start_rl (r.rebase Ex.rfl' pre_rfl) h) ⟨fun ρ' τ' σ' H' Z' θ' I e p q => co _ _ _ _ _ _ I.rh e p (.inr .non) q, co, fun _ _ _ _ _ _ _ _ _ z => z.elim, fun _ _ _ _ _ _ _ _ _ z => z.elim⟩⟩
end
section
variable {K : PySem.W.Frag} {T : Tbs} {ba : Ba T} {ρ : Rho} {τ : Tau} {Q : DK} {P : En} {ta te : TE} {tA : TA} {t : TS} {sp : SpD}
/-- the answer is handed out, the cells as they were -/
theorem out_same {Qd : DK} {d : D} (h : notk [d] = true) (q : Qd d τ) : Out τ.length Qd d τ := ⟨τ, [], by simp, Nat.le_refl _, (fun m z => by
  subst z
  cases h), q⟩
theorem out_more {Qd : DK} {d : D} {ex : Tau} (h : notk [d] = true) (q : Qd d τ) : Out τ.length Qd d (τ ++ ex) := ⟨τ, ex, rfl, Nat.le_refl _, (fun m z => by
  subst z
  cases h), q⟩
theorem out_raise {Ed : XD} {C : Addr} {ns : List Str} {xs : List D} (q : Ed C ns xs τ) : OutX τ.length Ed C ns xs τ := ⟨τ, [], by simp, Nat.le_refl _, q⟩
theorem w_call0 (q : WA K ba tA ρ τ fun ds τ1 => sp ds τ1 Q fun _ _ _ _ => False) : WE K ba (tCall (mkSp K T sp) [] L2.E0 tA) ρ τ Q := fun σ H Z θ R I k =>
  q σ H Z θ _ I fun vs H1 Z1 θ1 ds τ1 r1 e1 p1 h1 q1 => ⟨ba, ds, τ1, Z1, θ1, Q, _, r1, by rw [List.append_nil]; exact h1, q1, k.step e1 p1, fun _ _ _ _ _ _ _ _ _ _ _ _ _ _ _ z => z.elim⟩
/-- a def that may raise, called by one that may -/
theorem w_callX {E : XK} {Ed : XD} (hE : CoX K ba ba.Z ba.θ Ed E) (q : WA K ba tA ρ τ fun ds τ1 => sp ds τ1 Q Ed) : WE K ba (tCall (mkSp K T sp) [] E tA) ρ τ Q := fun σ H Z θ R I k =>
  q σ H Z θ _ I fun vs H1 Z1 θ1 ds τ1 r1 e1 p1 h1 q1 => ⟨ba, ds, τ1, Z1, θ1, Q, Ed, r1, by rw [List.append_nil]; exact h1, q1, k.step e1 p1, fun C d ns us xs H' Z' θ' τ' r e p => hE C d ns us xs H' Z' θ' τ' r (r1.bz.trans e) (r1.bt.trans p)⟩
/-- what a try's body may raise -/
def CoW {T : Tbs} (K : PySem.W.Frag) (ba : Ba T) (Ew : Rho → XD) (W : WX) : Prop := ∀ ρ' τ' σ' H' Z' θ' C d ns us xs, Rl K ba ρ' τ' σ' H' Z' θ' → Z' d = some (.xd (List.zip ns us)) → ns.length = us.length → RpA K Z' us xs → Ew ρ' C ns xs τ' → W (.ref C) (some d) σ' H'
theorem w_callS {W : WX} {Ew : Rho → XD} (hW : CoW K ba Ew W) (q : WA K ba tA ρ τ fun ds τ1 => sp ds τ1 Q (Ew ρ)) : WE K ba (tCallS (mkSp K T sp) (L2.WE W) tA) ρ τ Q := fun σ H Z θ R I k =>
  q σ H Z θ _ I fun vs H1 Z1 θ1 ds τ1 r1 e1 p1 h1 q1 => ⟨ba, ds, τ1, Z1, θ1, Q, Ew ρ, r1, h1, q1, k.step e1 p1, fun C d ns us xs H' Z' θ' τ' r e p g1 g2 g3 g4 => hW ρ τ' σ H' Z' θ' C d ns us xs (I.with r (e1.trans e) (p1.trans p)) g1 g2 g3 g4⟩
/-- a caught error -/
structure Caught {T : Tbs} (K : PySem.W.Frag) (ba : Ba T) (d : Addr) (ns : List Str) (xs : List D) : Prop where
  ex : ∃ us, ba.Z d = some (.xd (List.zip ns us)) ∧ ns.length = us.length ∧ RpA K ba.Z us xs
/-- began later -/
structure Ba.Le {T : Tbs} (a b : Ba T) : Prop where
  z : Ex a.Z b.Z
  t : a.θ <+: b.θ
theorem CoX.later {bb : Ba T} {Ed : XD} {E : XK} (h : CoX K ba ba.Z ba.θ Ed E) (l : ba.Le bb) : CoX K bb bb.Z bb.θ Ed E := fun C d ns us xs H' Z' θ' τ' r e p => h C d ns us xs H' Z' θ' τ' (r.rebase (l.z.trans e) (l.t.trans p)) (l.z.trans e) (l.t.trans p)
/-- what is wanted behind a suite whose name is in slot i -/
def En.un (P : En) (i : Nat) : En := { nx := fun ρ2 τ2 => P.nx (ρ2.set i none) τ2, rt := P.rt, bk := fun ρ2 τ2 => P.bk (ρ2.set i none) τ2, ct := fun ρ2 τ2 => P.ct (ρ2.set i none) τ2 }
/-- what a try's body may raise: the suite takes it -/
def Taken {T : Tbs} (K : PySem.W.Frag) (ba : Ba T) (c : Value) (i : Nat) (ts : Addr → Value → Option Addr → TS) (P : En) : Rho → XD := fun ρ' C ns xs τ' =>
  PySem.W.exmOne K (.ref C) c = some true ∧ ∀ (bh : Ba T) (a d : Addr), ba.Le bh → Caught K bh d ns xs → WS K bh (ts a (.ref C) (some d)) (ρ'.set i (some (.raw (.ref a)))) τ' (P.un i)
theorem w_try {c : Value} {i : Nat} {tb : WX → TS} {ts : Addr → Value → Option Addr → TS} {Wout : WX}
    (q : ∀ (bt : Ba T) (W : WX), ba.Le bt → CoW K bt (Taken K bt c i ts P) W → WS K bt (tb W) ρ τ P) :
    WS K ba (fun D σ H => tb (wAs K c i ts Wout D) D σ H) ρ τ P := fun σ H Z θ De I F => by
  have le : ba.Le (⟨Z, θ⟩ : Ba T) := ⟨I.bz, I.bt⟩
  have back : ∀ {H' Z' θ' τ'}, Rh K (⟨Z, θ⟩ : Ba T) τ' H' Z' θ' → Rh K ba τ' H' Z' θ' := fun r => r.rebase (le.z.trans r.bz) (le.t.trans r.bt)
  have F' : Fit K (⟨Z, θ⟩ : Ba T) Z θ P De := ⟨fun ρ' τ' σ' H' Z' θ' I' e p q => F.nx _ _ _ _ _ _ (I'.rebase (le.z.trans I'.bz) (le.t.trans I'.bt)) e p q, fun v H' Z' θ' d τ' r e p h q => F.rt _ _ _ _ _ _ (back r) e p h q,
    fun ρ' τ' σ' H' Z' θ' I' e p q => F.bk _ _ _ _ _ _ (I'.rebase (le.z.trans I'.bz) (le.t.trans I'.bt)) e p q, fun ρ' τ' σ' H' Z' θ' I' e p q => F.ct _ _ _ _ _ _ (I'.rebase (le.z.trans I'.bz) (le.t.trans I'.bt)) e p q⟩
  refine q ⟨Z, θ⟩ (wAs K c i ts Wout De) le (fun ρ' τ' σ' H' Z' θ' C d ns us xs I' h1 h2 h3 ⟨hx, hw⟩ => ?_) σ H Z θ De (I.rebase Ex.rfl' pre_rfl) F'
  have le2 : (⟨Z, θ⟩ : Ba T).Le (⟨Z', θ'⟩ : Ba T) := ⟨I'.bz, I'.bt⟩
  refine ⟨true, hx, fun _ a ha => ?_, fun z => nomatch z⟩
  have b2 : ∀ {ρ2 τ2 σ2 H2 Z2 θ2}, Rl K (⟨Z', θ'⟩ : Ba T) ρ2 τ2 σ2 H2 Z2 θ2 → Rl K ba ρ2 τ2 σ2 H2 Z2 θ2 ∧ Ex Z Z2 ∧ θ <+: θ2 := fun I2 => ⟨I2.rebase ((le.z.trans le2.z).trans I2.bz) ((le.t.trans le2.t).trans I2.bt), le2.z.trans I2.bz, le2.t.trans I2.bt⟩
  refine hw ⟨Z', θ'⟩ a d le2 ⟨us, h1, h2, h3⟩ _ H' Z' θ' _ ((I'.rebase Ex.rfl' pre_rfl).set (.inr (.raw _)) i) ⟨fun ρ2 τ2 σ2 H2 Z2 θ2 I2 e p q => ?_, fun v H2 Z2 θ2 d2 τ2 r e p h q => ?_, fun ρ2 τ2 σ2 H2 Z2 θ2 I2 e p q => ?_, fun ρ2 τ2 σ2 H2 Z2 θ2 I2 e p q => ?_⟩
  · obtain ⟨a1, a2, a3⟩ := b2 I2
    exact F.nx _ _ _ _ _ _ (a1.unset i) a2 a3 q
  · exact F.rt _ _ _ _ _ _ (r.rebase ((le.z.trans le2.z).trans r.bz) ((le.t.trans le2.t).trans r.bt)) (le2.z.trans e) (le2.t.trans p) h q
  · obtain ⟨a1, a2, a3⟩ := b2 I2
    exact F.bk _ _ _ _ _ _ (a1.unset i) a2 a3 q
  · obtain ⟨a1, a2, a3⟩ := b2 I2
    exact F.ct _ _ _ _ _ _ (a1.unset i) a2 a3 q
/-- what a call has laid that is new becomes known -/
theorem Rh.seen {H H' Z : Hp} {θ : List Addr} (r : Rh K ba τ H Z θ) (e : Ex H H') {d : Addr} {o : HO} (hd : H d = none) (hd' : H' d = some o) (hn : ∀ ps, o ≠ .tbl ps := by nofun) : Rh K ba τ H' (upd Z d o) θ ∧ Ex Z (upd Z d o) := by
  have zd : Z d = none := Evl.fresh_back r.ex hd
  have ez : Ex Z (upd Z d o) := Evl.Ex.new zd
  refine ⟨⟨fun a u ha => ?_, r.bz.trans ez, r.bt, r.tabs.ext e, ntb_upd r.ntb hn, r.len, fun n a c ha hc => ?_, r.ne⟩, ez⟩
  · by_cases had : a = d
    · subst had
      rw [upd_same] at ha
      rw [hd', ← ha]
    · rw [upd_ne had] at ha
      exact e _ _ (r.ex a u ha)
  · have k := r.cell n a c ha hc
    cases c with
    | dead => trivial
    | draw =>
      obtain ⟨za, c, ns, hdr, zc⟩ := k
      obtain ⟨i, m, big, cnt, b, he, r'⟩ := hdr.ex
      have n1 : a ≠ d := ne_of_none he hd
      exact ⟨by rw [upd_ne n1]; exact za, c, ns, ⟨hdr.ne, e _ _ hdr.cells, i, m, big, cnt, b, e _ _ he, r'⟩, ez _ _ zc⟩
    | nd t xs =>
      obtain ⟨za, vs, u, hu, hk, hr⟩ := k
      have n1 : a ≠ d := ne_of_none hu hd
      exact ⟨by rw [upd_ne n1]; exact za, vs, u, e _ _ hu, hk, hr.mono ez⟩
/-- a new error of a class with one field, raised -/
theorem w_raise {C : Addr} {fld : Str} {E : XK} {Ed : XD} (hE : CoX K ba ba.Z ba.θ Ed E) (q : WA K ba tA ρ τ fun ds τ1 => ∃ x, ds = [x] ∧ notk [x] = true ∧ Ed C [fld] [x] τ1) :
    WS K ba (fun _ σ H => tMkO C (spInit C fld) [] tA σ H fun cls d H' => E cls d H') ρ τ P := fun σ H Z θ De I F =>
  q σ H Z θ _ I fun vs H1 Z1 θ1 ds τ1 r1 e1 p1 h1 ⟨x, hx, nk, q1⟩ => by
    subst hx
    cases h1 with
    | cons g1 g =>
      cases g
      rename_i v
      refine r_mk (Q := E) fun d H' hd ex hd' => ?_
      have hx : Rp K Z1 v x := g1.rp (by
        intro m z
        subst z
        cases nk)
      obtain ⟨r2, e2⟩ := Rh.seen r1 ex hd hd'
      exact hE C d [fld] [v] [x] H' _ θ1 τ1 r2 (r1.bz.trans e2) r1.bt upd_same rfl (.one (hx.mono e2)) q1
end
end Pu

set_option Elab.async false
set_option linter.all false
set_option maxRecDepth 100000
set_option maxHeartbeats 4000000
namespace Pu
open PySem PySem.Spec PyProof.Rows L2 Fg
/-! ### dicts -/
section
variable {κ α : Type} [DecidableEq κ]
def valD (kvs : List (κ × α)) (k : κ) : Option α := (kvs.find? fun kv => decide (kv.1 = k)).map (·.2)
def putD (kvs : List (κ × α)) (k : κ) (v : α) : List (κ × α) :=
  if (kvs.any fun kv => decide (kv.1 = k)) = true then kvs.map (fun kv => if kv.1 = k then (kv.1, v) else kv) else kvs ++ [(k, v)]
def dropD (kvs : List (κ × α)) (k : κ) : List (κ × α) := kvs.filter fun kv => decide (kv.1 ≠ k)
theorem valD_nil {k : κ} : valD ([] : List (κ × α)) k = none := rfl
theorem valD_cons {k j : κ} {v : α} {r : List (κ × α)} : valD ((j, v) :: r) k = if j = k then some v else valD r k := by
  unfold valD
  by_cases h : j = k
  · simp [h]
  · simp [h]
theorem valD_any {kvs : List (κ × α)} {k : κ} : (kvs.any fun kv => decide (kv.1 = k)) = (valD kvs k).isSome := by
  induction kvs with
  | nil => rfl
  | cons p r ih =>
    obtain ⟨j, v⟩ := p
    rw [List.any_cons, ih, valD_cons]
    by_cases h : j = k
    · simp [h]
    · simp [h]
theorem valD_app {kvs : List (κ × α)} {k j : κ} {v : α} : valD (kvs ++ [(k, v)]) j = (valD kvs j).or (if k = j then some v else none) := by
  induction kvs with
  | nil =>
    rw [List.nil_append, valD_cons, valD_nil]
    rfl
  | cons p r ih =>
    obtain ⟨i, u⟩ := p
    rw [List.cons_append, valD_cons, valD_cons, ih]
    split <;> rfl
theorem valD_map {kvs : List (κ × α)} {k j : κ} {v : α} : valD (kvs.map fun kv => if kv.1 = k then (kv.1, v) else kv) j = if j = k then (valD kvs j).map (fun _ => v) else valD kvs j := by
  induction kvs with
  | nil => split <;> rfl
  | cons p r ih =>
    obtain ⟨i, u⟩ := p
    rw [List.map_cons]
    by_cases hi : i = k
    · subst hi
      rw [if_pos rfl, valD_cons, valD_cons, ih]
      by_cases hj : i = j
      · subst hj
        simp
      · rw [if_neg hj, if_neg hj]
    · rw [if_neg hi, valD_cons, valD_cons, ih]
      by_cases hj : i = j
      · subst hj
        rw [if_pos rfl, if_pos rfl, if_neg hi]
      · rw [if_neg hj, if_neg hj]
theorem valD_put {kvs : List (κ × α)} {k j : κ} {v : α} : valD (putD kvs k v) j = if j = k then some v else valD kvs j := by
  unfold putD
  rw [valD_any]
  cases h : valD kvs k with
  | none =>
    rw [if_neg (by simp), valD_app]
    by_cases e : j = k
    · subst e
      rw [h]
      simp
    · rw [if_neg e, if_neg (fun z => e z.symm)]
      cases valD kvs j <;> rfl
  | some u =>
    rw [if_pos (show (some u).isSome = true from rfl), valD_map]
    by_cases e : j = k
    · subst e
      rw [if_pos rfl, if_pos rfl, h]
      rfl
    · rw [if_neg e, if_neg e]
theorem putD_len {kvs : List (κ × α)} {k : κ} {v : α} : (putD kvs k v).length ≤ kvs.length + 1 := by
  unfold putD
  split
  · rw [List.length_map]; omega
  · rw [List.length_append]; exact Nat.le_refl _
end
/-- a dict by its pairs -/
abbrev dicT (kvs : List (Key × D)) : Tag := .dk (kvs.map (·.1))
abbrev D.dic (kvs : List (Key × D)) : D := .node (.dk (kvs.map (·.1))) (kvs.map (·.2))
abbrev Cl.dic (kvs : List (Key × D)) : Cl := .nd (.dk (kvs.map (·.1))) (kvs.map (·.2))
abbrev D.dit (kvs : List (List Key × D)) : D := .node (.dt (kvs.map (·.1))) (kvs.map (·.2))
abbrev Cl.dit (kvs : List (List Key × D)) : Cl := .nd (.dt (kvs.map (·.1))) (kvs.map (·.2))
section
variable {κ : Type} [DecidableEq κ] {K : PySem.W.Frag} {Z : Hp}
inductive PR (K : PySem.W.Frag) (Z : Hp) : List (κ × V) → List (κ × D) → Prop
  | nil : PR K Z [] []
  | cons {k : κ} {v : V} {d : D} {l : List (κ × V)} {r : List (κ × D)} : Rp K Z v d → PR K Z l r → PR K Z ((k, v) :: l) ((k, d) :: r)
theorem PR.zip : ∀ {kvs : List (κ × D)} {vs : List V}, RpA K Z vs (kvs.map (·.2)) → PR K Z ((kvs.map (·.1)).zip vs) kvs
  | [], _, h => by
    cases h
    exact .nil
  | (k, d) :: r, _, h => by
    cases h with
    | cons h1 h2 => exact .cons h1 (PR.zip h2)
theorem PR.unzip : ∀ {l : List (κ × V)} {kvs : List (κ × D)}, PR K Z l kvs → l = (kvs.map (·.1)).zip (l.map (·.2)) ∧ (kvs.map (·.1)).length = (l.map (·.2)).length ∧ RpA K Z (l.map (·.2)) (kvs.map (·.2))
  | _, _, .nil => ⟨rfl, rfl, .nil⟩
  | _, _, .cons h r => by
    obtain ⟨e1, e2, e3⟩ := r.unzip
    refine ⟨?_, ?_, .cons h e3⟩
    · simp only [List.map_cons, List.zip_cons_cons]
      rw [← e1]
    · simpa using e2
theorem PR.len : ∀ {l : List (κ × V)} {kvs : List (κ × D)}, PR K Z l kvs → l.length = kvs.length
  | _, _, .nil => rfl
  | _, _, .cons _ r => congrArg (· + 1) r.len
theorem PR.val : ∀ {l : List (κ × V)} {kvs : List (κ × D)} (k : κ), PR K Z l kvs → (valD kvs k = none ∧ valV l k = none) ∨ ∃ d v, valD kvs k = some d ∧ valV l k = some v ∧ Rp K Z v d
  | _, _, _, .nil => .inl ⟨rfl, rfl⟩
  | _, _, k, .cons (k := j) (v := v) (d := d) (l := l) (r := r) h p => by
    have e : valV ((j, v) :: l) k = if j = k then some v else valV l k := valD_cons
    rw [valD_cons, e]
    by_cases hj : j = k
    · rw [if_pos hj, if_pos hj]
      exact .inr ⟨d, v, rfl, rfl, h⟩
    · rw [if_neg hj, if_neg hj]
      exact p.val k
theorem PR.keyany : ∀ {l : List (κ × V)} {kvs : List (κ × D)} (k : κ), PR K Z l kvs → (l.any fun kv => decide (kv.1 = k)) = kvs.any fun kv => decide (kv.1 = k)
  | _, _, _, .nil => rfl
  | _, _, k, .cons _ p => by
    rw [List.any_cons, List.any_cons, p.keyany k]
theorem PR.map : ∀ {l : List (κ × V)} {kvs : List (κ × D)} (k : κ) {v : V} {d : D}, Rp K Z v d → PR K Z l kvs → PR K Z (l.map fun kv => if kv.1 = k then (kv.1, v) else kv) (kvs.map fun kv => if kv.1 = k then (kv.1, d) else kv)
  | _, _, _, _, _, _, .nil => .nil
  | _, _, k, _, _, hv, .cons (k := j) h p => by
    rw [List.map_cons, List.map_cons]
    by_cases hj : j = k
    · rw [if_pos hj, if_pos hj]
      exact .cons hv (p.map k hv)
    · rw [if_neg hj, if_neg hj]
      exact .cons h (p.map k hv)
theorem PR.append : ∀ {l l' : List (κ × V)} {kvs kvs' : List (κ × D)}, PR K Z l kvs → PR K Z l' kvs' → PR K Z (l ++ l') (kvs ++ kvs')
  | _, _, _, _, .nil, h => h
  | _, _, _, _, .cons h p, q => .cons h (p.append q)
theorem PR.put {l : List (κ × V)} {kvs : List (κ × D)} {k : κ} {v : V} {d : D} (p : PR K Z l kvs) (h : Rp K Z v d) : PR K Z (putK l k v) (putD kvs k d) := by
  unfold putK putD
  rw [p.keyany k]
  split
  · exact p.map k h
  · exact p.append (.cons h .nil)
theorem PR.drop {k : κ} : ∀ {l : List (κ × V)} {kvs : List (κ × D)}, PR K Z l kvs → PR K Z (dropK l k) (dropD kvs k)
  | _, _, .nil => .nil
  | _, _, .cons (k := j) h p => by
    unfold dropK dropD
    rw [List.filter_cons, List.filter_cons]
    split
    · exact .cons h p.drop
    · exact p.drop
end
def D.key : D → Option Key
  | .int i => some (.inl i)
  | .str l => some (.inr (S l))
  | _ => none
def keysOf : List D → Option (List Key)
  | [] => some []
  | x :: xs => match x.key, keysOf xs with
    | some k, some ks => some (k :: ks)
    | _, _ => none
section
variable {K : PySem.W.Frag} {Z H : Hp} {T : Tbs} {ba : Ba T} {θ : List Addr} {τ : Tau} {ρ : Rho} {Q : DK} {P : En} {x y z : D} {w : World}
theorem key_rp {v : V} {d : D} {k : Key} (h : Rp K Z v d) (e : d.key = some k) : v = kV k := by
  cases h with
  | int i =>
    have e : some (Sum.inl i : Key) = some k := e
    injection e with e
    subst e
    rfl
  | str l =>
    have e : some (Sum.inr (S l) : Key) = some k := e
    injection e with e
    subst e
    rfl
  | _ => cases e
theorem keys_rp : ∀ {vs : List V} {ds : List D} {ks : List Key}, RpA K Z vs ds → keysOf ds = some ks → vs = ks.map kV
  | _, _, _, .nil, e => by
    have e : some ([] : List Key) = some _ := e
    injection e with e
    subst e
    rfl
  | _, _, _, .cons (d := d) (ds := ds) h r, e => by
    unfold keysOf at e
    cases hk : d.key with
    | none =>
      rw [hk] at e
      cases e
    | some k =>
      cases hks : keysOf ds with
      | none =>
        rw [hk, hks] at e
        cases e
      | some ks =>
        rw [hk, hks] at e
        injection e with e
        subst e
        rw [key_rp h hk, keys_rp r hks]
        rfl
/-- what stands for a key of a dict -/
inductive KeyD : D → Sum Key (List Key) → Prop
  | k {d : D} {k : Key} : d.key = some k → KeyD d (.inl k)
  | t {ds : List D} {ks : List Key} : keysOf ds = some ks → KeyD (.tup ds) (.inr ks)
theorem notk_key {d : D} {k : Key} (h : d.key = some k) : ∀ n, d ≠ .tk n := by
  intro n z
  subst z
  cases h
theorem dget_k {kvs : List (Key × D)} {k : Key} {v u : V} (r : Rh K ba τ H Z θ) (hx : x.rs τ = .dic kvs) (hk : y.key = some k) (h1 : RpS K Z θ v x) (h2 : RpS K Z θ u y) :
    ∃ a l, v = .ref a ∧ H a = some (.dK l) ∧ PR K Z l kvs ∧ DGet H a u (valV l k) := by
  obtain ⟨a, vs, rfl, ⟨n1, n2⟩, s⟩ := rs_node r h1 hx
  have e := key_rp (h2.rp (notk_key hk)) hk
  exact ⟨a, _, rfl, n1, PR.zip s, by rw [e]; exact DGet.k n1⟩
theorem dget_t {kvs : List (List Key × D)} {ds : List D} {ks : List Key} {v u : V} (r : Rh K ba τ H Z θ) (hx : x.rs τ = .dit kvs) (hk : keysOf ds = some ks) (h1 : RpS K Z θ v x) (h2 : RpS K Z θ u (.tup ds)) :
    ∃ a b l, v = .ref a ∧ u = .ref b ∧ H a = some (.dT l) ∧ H b = some (.tup (ks.map kV)) ∧ PR K Z l kvs ∧ DGet H a u (valV l ks) := by
  obtain ⟨a, vs, rfl, ⟨n1, n2⟩, s⟩ := rs_node r h1 hx
  obtain ⟨b, us, rfl, m1, t⟩ := rs_node (x := .tup ds) r h2 rfl
  have m1 : H b = some (.tup us) := m1
  rw [keys_rp t hk] at m1
  exact ⟨a, b, _, rfl, rfl, n1, m1, PR.zip s, DGet.t n1 m1⟩
theorem d_ixDk {kvs : List (Key × D)} {k : Key} {d : D} (hx : x.rs τ = .dic kvs) (hk : y.key = some k) (hv : valD kvs k = some d) (q : Q d τ) : RD K ba (rIxU K w) x y τ Q := fun v u H Z θ R r g1 g2 c => by
  obtain ⟨a, l, rfl, n1, p, g⟩ := dget_k r hx hk g1 g2
  rcases p.val k with ⟨e, _⟩ | ⟨d', v', e1, e2, h⟩
  · rw [hv] at e
    cases e
  · rw [hv] at e1
    injection e1 with e1
    subst e1
    rw [e2] at g
    exact .inr (.inr (.inr (.inl ⟨a, v', rfl, g, c.now r h q⟩)))
theorem d_ixDt {kvs : List (List Key × D)} {ds : List D} {ks : List Key} {d : D} (hx : x.rs τ = .dit kvs) (hk : keysOf ds = some ks) (hv : valD kvs ks = some d) (q : Q d τ) : RD K ba (rIxU K w) x (.tup ds) τ Q := fun v u H Z θ R r g1 g2 c => by
  obtain ⟨a, b, l, rfl, rfl, n1, n2, p, g⟩ := dget_t r hx hk g1 g2
  rcases p.val ks with ⟨e, _⟩ | ⟨d', v', e1, e2, h⟩
  · rw [hv] at e
    cases e
  · rw [hv] at e1
    injection e1 with e1
    subst e1
    rw [e2] at g
    exact .inr (.inr (.inr (.inl ⟨a, v', rfl, g, c.now r h q⟩)))
theorem val_some {κ : Type} [DecidableEq κ] {l : List (κ × V)} {kvs : List (κ × D)} {k : κ} (p : PR K Z l kvs) : (valV l k).isSome = (valD kvs k).isSome := by
  rcases p.val k with ⟨e1, e2⟩ | ⟨_, _, e1, e2, _⟩ <;> rw [e1, e2] <;> rfl
theorem d_inDk {kvs : List (Key × D)} {k : Key} (hx : x.rs τ = .dic kvs) (hk : y.key = some k) (q : Q (.bl (valD kvs k).isSome) τ) : RD K ba (rInU K w) y x τ Q := fun v u H Z θ R r g1 g2 c => by
  obtain ⟨a, l, rfl, n1, p, g⟩ := dget_k r hx hk g2 g1
  exact .inr (.inr (.inl ⟨a, _, rfl, g, c.now r (.bl _) (by rw [val_some p]; exact q)⟩))
theorem d_ninDk {kvs : List (Key × D)} {k : Key} (hx : x.rs τ = .dic kvs) (hk : y.key = some k) (q : Q (.bl (!(valD kvs k).isSome)) τ) : RD K ba (rNinU K w) y x τ Q := fun v u H Z θ R r g1 g2 c => by
  obtain ⟨a, l, rfl, n1, p, g⟩ := dget_k r hx hk g2 g1
  exact .inr (.inr (.inl ⟨a, _, rfl, g, c.now r (.bl _) (by rw [val_some p]; exact q)⟩))
theorem d_inDt {kvs : List (List Key × D)} {ds : List D} {ks : List Key} (hx : x.rs τ = .dit kvs) (hk : keysOf ds = some ks) (q : Q (.bl (valD kvs ks).isSome) τ) : RD K ba (rInU K w) (.tup ds) x τ Q := fun v u H Z θ R r g1 g2 c => by
  obtain ⟨a, b, l, rfl, rfl, n1, n2, p, g⟩ := dget_t r hx hk g2 g1
  exact .inr (.inr (.inl ⟨a, _, rfl, g, c.now r (.bl _) (by rw [val_some p]; exact q)⟩))
theorem d_ninDt {kvs : List (List Key × D)} {ds : List D} {ks : List Key} (hx : x.rs τ = .dit kvs) (hk : keysOf ds = some ks) (q : Q (.bl (!(valD kvs ks).isSome)) τ) : RD K ba (rNinU K w) (.tup ds) x τ Q := fun v u H Z θ R r g1 g2 c => by
  obtain ⟨a, b, l, rfl, rfl, n1, n2, p, g⟩ := dget_t r hx hk g2 g1
  exact .inr (.inr (.inl ⟨a, _, rfl, g, c.now r (.bl _) (by rw [val_some p]; exact q)⟩))
/-- a new dict that will be changed -/
theorem w_dnewK (q : Q (.tk τ.length) (τ ++ [.dic []])) : WE K ba tDNewK ρ τ Q := fun σ H Z θ R I k p hp =>
  k _ _ _ _ _ _ (I.rh.cellNew (t := .dk []) (o := .dK []) hp ⟨rfl, rfl⟩ .nil) Ex.rfl' (List.prefix_append _ _) (.inl ⟨τ.length, p, rfl, by rw [← I.rh.len, List.getElem?_append_right (Nat.le_refl _), Nat.sub_self]; rfl, rfl⟩) q
theorem w_dnewT (q : Q (.tk τ.length) (τ ++ [.dit []])) : WE K ba tDNewT ρ τ Q := fun σ H Z θ R I k p hp =>
  k _ _ _ _ _ _ (I.rh.cellNew (t := .dt []) (o := .dT []) hp ⟨rfl, rfl⟩ .nil) Ex.rfl' (List.prefix_append _ _) (.inl ⟨τ.length, p, rfl, by rw [← I.rh.len, List.getElem?_append_right (Nat.le_refl _), Nat.sub_self]; rfl, rfl⟩) q
theorem tk_at {n : Nat} {v : V} {c : Cl} (r : Rh K ba τ H Z θ) (h : RpS K Z θ v (.tk n)) (hn : τ[n]? = some c) : ∃ a, v = .ref a ∧ θ[n]? = some a ∧ CellOk K H Z a c := by
  obtain ⟨a, h1, h2⟩ := h.tk
  exact ⟨a, h1, h2, r.cell n a c h2 hn⟩
/-- d[k] = v -/
theorem w_dputK {td ty tv : TE} (q : WE K ba tv ρ τ fun z τ1 => WE K ba td ρ τ1 fun x τ2 => WE K ba ty ρ τ2 fun y τ3 => ∃ n kvs k, x = .tk n ∧ τ3[n]? = some (.dic kvs) ∧ y.key = some k ∧ notk [z] = true ∧ kvs.length < 1000000 ∧ P.nx ρ (τ3.set n (.dic (putD kvs k z)))) :
    WS K ba (sDPut td ty tv) ρ τ P := fun σ H Z θ De I F =>
  q σ H Z θ _ I fun v1 H1 Z1 θ1 d1 τ1 r1 e1 p1 h1 q1 => q1 σ H1 Z1 θ1 _ (I.with r1 e1 p1) fun v2 H2 Z2 θ2 d2 τ2 r2 e2 p2 h2 q2 => q2 σ H2 Z2 θ2 _ ((I.with r1 e1 p1).with r2 e2 p2) fun v3 H3 Z3 θ3 d3 τ3 r3 e3 p3 h3 ⟨n, kvs, k, hx, hn, hk, nk, hl, q3⟩ => by
    subst hx
    obtain ⟨a, rfl, ha, _, vs, o, ho, ⟨ho2, hl2⟩, hr⟩ := tk_at r3 (h2.mono e3 p3) hn
    subst ho2
    have pr : PR K Z3 _ kvs := PR.zip hr
    have hz : Rp K Z3 v1 d1 := (h1.rp (by
      intro m z
      subst z
      cases nk)).mono (e2.trans e3)
    have hy := key_rp (h3.rp (notk_key hk)) hk
    obtain ⟨u1, u2, u3⟩ := (pr.put (k := k) hz).unzip
    refine ⟨a, _, rfl, by rw [hy]; exact DPut.k ho (by rw [pr.len, sizeLine_eq]; omega), ?_⟩
    have r4 := r3.cellSet (t := dicT (putD kvs k d1)) (o := .dK (putK ((kvs.map (·.1)).zip vs) k v1)) hn rfl ha ⟨by rw [← u1], u2⟩ u3
    exact F.nx _ _ _ _ _ _ (((I.with r1 e1 p1).with r2 e2 p2).with r4 e3 p3) ((e1.trans e2).trans e3) ((p1.trans p2).trans p3) q3
theorem w_dputT {td ty tv : TE} (q : WE K ba tv ρ τ fun z τ1 => WE K ba td ρ τ1 fun x τ2 => WE K ba ty ρ τ2 fun y τ3 => ∃ n kvs ds ks, x = .tk n ∧ y = .tup ds ∧ τ3[n]? = some (.dit kvs) ∧ keysOf ds = some ks ∧ notk [z] = true ∧ kvs.length < 1000000 ∧ P.nx ρ (τ3.set n (.dit (putD kvs ks z)))) :
    WS K ba (sDPut td ty tv) ρ τ P := fun σ H Z θ De I F =>
  q σ H Z θ _ I fun v1 H1 Z1 θ1 d1 τ1 r1 e1 p1 h1 q1 => q1 σ H1 Z1 θ1 _ (I.with r1 e1 p1) fun v2 H2 Z2 θ2 d2 τ2 r2 e2 p2 h2 q2 => q2 σ H2 Z2 θ2 _ ((I.with r1 e1 p1).with r2 e2 p2) fun v3 H3 Z3 θ3 d3 τ3 r3 e3 p3 h3 ⟨n, kvs, ds, ks, hx, hy, hn, hk, nk, hl, q3⟩ => by
    subst hx hy
    obtain ⟨a, rfl, ha, _, vs, o, ho, ⟨ho2, hl2⟩, hr⟩ := tk_at r3 (h2.mono e3 p3) hn
    subst ho2
    have pr : PR K Z3 _ kvs := PR.zip hr
    have hz : Rp K Z3 v1 d1 := (h1.rp (by
      intro m z
      subst z
      cases nk)).mono (e2.trans e3)
    obtain ⟨b, us, rfl, m1, t⟩ := rs_node (x := .tup ds) r3 h3 rfl
    have m1 : H3 b = some (.tup us) := m1
    rw [keys_rp t hk] at m1
    obtain ⟨u1, u2, u3⟩ := (pr.put (k := ks) hz).unzip
    refine ⟨a, _, rfl, DPut.t ho m1 (by rw [pr.len, sizeLine_eq]; omega), ?_⟩
    have r4 := r3.cellSet (t := .dt ((putD kvs ks d1).map (·.1))) (o := .dT (putK ((kvs.map (·.1)).zip vs) ks v1)) hn rfl ha ⟨by rw [← u1], u2⟩ u3
    exact F.nx _ _ _ _ _ _ (((I.with r1 e1 p1).with r2 e2 p2).with r4 e3 p3) ((e1.trans e2).trans e3) ((p1.trans p2).trans p3) q3
/-- xs.append(y), xs a cell -/
theorem d_append {n : Nat} {xs : List D} (hn : τ[n]? = some (.lst xs)) (nk : notk [y] = true) (hl : xs.length < 1000000) (q : Q .non (τ.set n (.lst (xs ++ [y])))) : RM K ba rAppend (.tk n) [y] τ Q := fun v vs H Z θ R r g1 g2 c => by
  obtain ⟨a, rfl, ha, za, us, o, ho, hk, hr⟩ := tk_at r g1 hn
  have hk : o = .lst us := hk
  subst hk
  cases g2 with
  | cons g2 g =>
    cases g
    rename_i u
    have hy : Rp K Z u y := g2.rp (by
      intro m z
      subst z
      cases nk)
    refine ⟨a, us, u, rfl, rfl, ho, by rw [hr.length, sizeLine_eq]; omega, ?_⟩
    exact c _ _ _ _ _ _ (r.cellSet (t := .lst) (o := .lst (us ++ [u])) hn rfl ha rfl (hr.append (.one hy))) Ex.rfl' pre_rfl (.inr .non) q
theorem ty_lst {xs : List D} (hx : x.rs τ = .lst xs) : TyD K ba "list" x τ := fun v H Z θ r h => by
  obtain ⟨a, vs, rfl, n1, _⟩ := rs_node r h hx
  exact .inl ⟨rfl, vs, Evl.sq_of n1⟩
/-- a.join(list of texts) -/
theorem d_join {a : List Nat} {ys : List (List Nat)} (hy : y.rs τ = .lst (ys.map .str)) (hz : (ys.map (·.length)).sum + ys.length * a.length ≤ 16777216) (q : Q (.str (TL.joinL a ys)) τ) : RM K ba (rJoinS K) (.str a) [y] τ Q := fun v vs H Z θ R r g1 g2 c => by
  cases g2 with
  | cons g2 g =>
    cases g
    obtain ⟨p, us, rfl, n1, s⟩ := rs_node r g2 hy
    have e : us = ys.map fun l => V.str (S l) := by
      clear n1 hz q g2 hy
      induction ys generalizing us with
      | nil => cases s; rfl
      | cons l ls ih =>
        cases s with
        | cons s1 s2 =>
          cases s1
          rw [List.map_cons, ih _ s2]
    subst e
    exact ⟨a, p, ys, g1.str, rfl, .inl (Evl.sq_of n1), hz, c.now r (.str _) q⟩
end
end Pu

set_option Elab.async false
set_option linter.all false
set_option maxRecDepth 100000
set_option maxHeartbeats 4000000
namespace Pu
open PySem PySem.Spec PyProof.Rows L2 Fg
theorem Dr.ex' {ns : List Int} {c d : Addr} {H H' : Hp} (D : Dr ns c d H) (e : Ex H H') : Dr ns c d H' := ⟨D.ne, e _ _ D.cells, by
  obtain ⟨i, n, big, cnt, base, h, r⟩ := D.ex
  exact ⟨i, n, big, cnt, base, e _ _ h, r⟩⟩
theorem Dr.put {ns : List Int} {c d : Addr} {H : Hp} (D : Dr ns c d H) {i n big cnt base : Int} (hi : 0 ≤ i) : Dr ns c d (upd H d (.lst [.ref c, .int i, .int big, .int cnt, .int n, .int base])) :=
  ⟨D.ne, by rw [upd_ne D.ne]; exact D.cells, i, n, big, cnt, base, upd_same, hi⟩
theorem Dr.put2 {ns : List Int} {c d : Addr} {H : Hp} {o : HO} (D : Dr ns c d H) {i n big cnt base : Int} (hi : 0 ≤ i) : Dr ns c d (upd (upd H d o) d (.lst [.ref c, .int i, .int big, .int cnt, .int n, .int base])) := by
  rw [upd_upd]
  exact D.put hi
theorem Dr.put3 {ns : List Int} {c d : Addr} {H : Hp} {o o' : HO} (D : Dr ns c d H) {i n big cnt base : Int} (hi : 0 ≤ i) : Dr ns c d (upd (upd (upd H d o) d o') d (.lst [.ref c, .int i, .int big, .int cnt, .int n, .int base])) := by
  rw [upd_upd]
  exact D.put2 hi
theorem kp2 {d : Addr} {H : Hp} {o o' : HO} : Kp d H (upd (upd H d o) d o') := by rw [upd_upd]; exact Kp.upd
theorem kp3 {d : Addr} {H : Hp} {o o' o2 : HO} : Kp d H (upd (upd (upd H d o) d o') d o2) := by rw [upd_upd]; exact kp2
section
variable {P : Program} {w : World} {K : PySem.W.Frag} {T : Tbs} {mg : Str → Option Value} {base : Heap} {ba : Ba T} {ρ : Rho} {τ : Tau} {Q : DK} {H H' Z : Hp} {θ : List Addr}
theorem Can.imp {CX : CXT} {k : Nat} {x : Str} {ps : List Str} {sp sp' : Sp} (c : Can P w K mg base CX k x ps sp) (h : ∀ vs H Q E, sp' vs H Q E → sp vs H Q E) : Can P w K mg base CX k x ps sp' := by
  obtain ⟨f, fd, F, h1, h2, h3⟩ := c.ex
  exact ⟨f, fd, F.imp h, h1, h2, h3⟩
theorem Can.up {CX : CXT} {j k : Nat} {x : Str} {ps : List Str} {sp : Sp} (c : Can P w K mg base CX j x ps sp) (h : j ≤ k) : Can P w K mg base CX k x ps sp := by
  obtain ⟨f, fd, F, h1, h2, h3⟩ := c.ex
  exact ⟨f, fd, F.mono h, h1, h2, h3⟩
/-! ### promises by the number of arguments -/
def sp1 (p : D → Tau → DK → XD → Prop) : SpD := fun ds τ Q E => ∃ a, ds = [a] ∧ p a τ Q E
def sp2 (p : D → D → Tau → DK → XD → Prop) : SpD := fun ds τ Q E => ∃ a b, ds = [a, b] ∧ p a b τ Q E
def sp3 (p : D → D → D → Tau → DK → XD → Prop) : SpD := fun ds τ Q E => ∃ a b c, ds = [a, b, c] ∧ p a b c τ Q E
def sp4 (p : D → D → D → D → Tau → DK → XD → Prop) : SpD := fun ds τ Q E => ∃ a b c d, ds = [a, b, c, d] ∧ p a b c d τ Q E
def sp5 (p : D → D → D → D → D → Tau → DK → XD → Prop) : SpD := fun ds τ Q E => ∃ a b c d e, ds = [a, b, c, d, e] ∧ p a b c d e τ Q E
def sp6 (p : D → D → D → D → D → D → Tau → DK → XD → Prop) : SpD := fun ds τ Q E => ∃ a b c d e f, ds = [a, b, c, d, e, f] ∧ p a b c d e f τ Q E
theorem sp1_at {p : D → Tau → DK → XD → Prop} {a : D} {τ : Tau} {Q : DK} {E : XD} (h : p a τ Q E) : sp1 p [a] τ Q E := ⟨a, rfl, h⟩
theorem sp2_at {p : D → D → Tau → DK → XD → Prop} {a b : D} {τ : Tau} {Q : DK} {E : XD} (h : p a b τ Q E) : sp2 p [a, b] τ Q E := ⟨a, b, rfl, h⟩
theorem sp3_at {p : D → D → D → Tau → DK → XD → Prop} {a b c : D} {τ : Tau} {Q : DK} {E : XD} (h : p a b c τ Q E) : sp3 p [a, b, c] τ Q E := ⟨a, b, c, rfl, h⟩
theorem sp4_at {p : D → D → D → D → Tau → DK → XD → Prop} {a b c d : D} {τ : Tau} {Q : DK} {E : XD} (h : p a b c d τ Q E) : sp4 p [a, b, c, d] τ Q E := ⟨a, b, c, d, rfl, h⟩
theorem sp5_at {p : D → D → D → D → D → Tau → DK → XD → Prop} {a b c d e : D} {τ : Tau} {Q : DK} {E : XD} (h : p a b c d e τ Q E) : sp5 p [a, b, c, d, e] τ Q E := ⟨a, b, c, d, e, rfl, h⟩
theorem sp6_at {p : D → D → D → D → D → D → Tau → DK → XD → Prop} {a b c d e f : D} {τ : Tau} {Q : DK} {E : XD} (h : p a b c d e f τ Q E) : sp6 p [a, b, c, d, e, f] τ Q E := ⟨a, b, c, d, e, f, rfl, h⟩
/-! ### drawing -/
abbrev IsDraw (τ : Tau) (d : D) : Prop := ∃ n, d = .tk n ∧ τ[n]? = some .draw
def spPickD : SpD := sp2 fun d m τ Q _ => ∃ j, IsDraw τ d ∧ m = .int j ∧ j < 2 ^ 200 ∧ ∀ k, 0 ≤ k → (k < j ∨ k = 0) → Q (.int k) τ
theorem Rh.kp {n : Nat} {a : Addr} (r : Rh K ba τ H Z θ) (hn : τ[n]? = some .draw) (ha : θ[n]? = some a) (kp : Kp a H H') (hd : ∃ c ns, Dr ns c a H' ∧ Z c = some (.lst (ns.map V.int))) : Rh K ba τ H' Z θ := by
  have za := (CellOk.some (r.cell n a _ ha hn) rfl).2
  have ta := cell_tab (u := (H a).getD (.lst [])) (by
    obtain ⟨_, c, ns, h, _⟩ := r.cell n a _ ha hn
    obtain ⟨i, m, big, cnt, b, e, _⟩ := h.ex
    rw [e]
    rfl) (r.cell n a _ ha hn) rfl
  have ha' : H a = some ((H a).getD (.lst [])) := by
    obtain ⟨_, c, ns, h, _⟩ := r.cell n a _ ha hn
    obtain ⟨i, m, big, cnt, b, e, _⟩ := h.ex
    rw [e]
    rfl
  refine ⟨fun b u hb => kp b u (ne_of_none hb za) (r.ex b u hb), r.bz, r.bt, fun q hq => ?_, r.ntb, r.len, fun m b c hb hc => ?_, r.ne⟩
  · obtain ⟨ps, h1, h2, h3⟩ := r.tabs q hq
    have n1 : q.1 ≠ a := fun z => by
      rw [z, ha'] at h1
      exact ta.1 _ (Option.some.inj h1)
    refine ⟨ps, kp _ _ n1 h1, h2, fun pos cv hc => ?_⟩
    obtain ⟨c, e1, e2⟩ := h3 pos cv hc
    have n2 : c ≠ a := fun z => by
      rw [z, ha'] at e2
      exact ta.2 _ (Option.some.inj e2)
    exact ⟨c, e1, kp _ _ n2 e2⟩
  · by_cases hm : m = n
    · subst hm
      rw [hn] at hc
      injection hc with hc
      subst hc
      rw [ha] at hb
      injection hb with hb
      subst hb
      exact ⟨za, hd⟩
    · have k := r.cell m b c hb hc
      cases c with
      | dead => trivial
      | draw =>
        have n1 : b ≠ a := r.ne m n b a _ _ hb ha hc hn rfl rfl hm
        obtain ⟨zb, c, ns, hdr, zc⟩ := k
        have n2 : c ≠ a := ne_of_none zc za
        obtain ⟨i, q, big, cnt, b0, he, r'⟩ := hdr.ex
        exact ⟨zb, c, ns, ⟨hdr.ne, kp _ _ n2 hdr.cells, i, q, big, cnt, b0, kp _ _ n1 he, r'⟩, zc⟩
      | nd t xs =>
        have n1 : b ≠ a := r.ne m n b a _ _ hb ha hc hn rfl rfl hm
        obtain ⟨zb, vs, u, hu, hk, hr⟩ := k
        exact ⟨zb, vs, u, kp _ _ n1 hu, hk, hr⟩
def spPickH : Sp := fun vs H Q _ => ∃ (c d : Addr) (m : Int) (ns : List Int), vs = [.ref d, .int m] ∧ Dr ns c d H ∧ m < 2 ^ 200 ∧ ∀ (k : Int) H', 0 ≤ k → (k < m ∨ k = 0) → Kp d H H' → Dr ns c d H' → Q (.int k) H'
theorem pick_imp (vs : List V) (H : Hp) (Q : VK) (E : XK) (h : mkSp K T spPickD vs H Q E) : spPickH vs H Q E := by
  obtain ⟨ba, ds, τ, Z, θ, Qd, Ed, r, hv, ⟨d, m, rfl, j, ⟨n, rfl, hn⟩, rfl, hj, hq⟩, c, _⟩ := h
  cases hv with
  | cons h1 hv =>
    cases hv with
    | cons h2 hv =>
      cases hv
      rw [h2.int]
      obtain ⟨a, rfl, ha, za, cc, ns, hd, zc⟩ := tk_at r h1 hn
      exact ⟨cc, a, j, ns, rfl, hd, hj, fun k H' h0 h1 kp hd' => c _ _ _ _ _ _ (r.kp hn ha kp ⟨cc, ns, hd', zc⟩) Ex.rfl' pre_rfl (.inr (.int k)) (hq k h0 h1)⟩
end
end Pu

set_option Elab.async false
set_option linter.all false
set_option maxRecDepth 100000
set_option maxHeartbeats 4000000
namespace Pu
open PySem PySem.Spec PyProof.Rows L2 Fg
theorem pt_tru {X : Cx} {a : Expr} {ta : TE} (ha : PE X a ta) (he : ∀ whole, isTrue a X.env whole = (do let v ← whole; standAt a.pos; holding [v] (truthy v)) := by exact fun _ => rfl) : PT X a (tTru X.K ta) := pt_truth ha he
def D.tru : D → Bool
  | .non => false
  | .bl b => b
  | .int i => i != 0
  | .str l => !l.isEmpty
  | .node _ xs => !xs.isEmpty
  | _ => true
def D.trus : D → Bool
  | .raw _ => false
  | .tk _ => false
  | .node (.obj _ _) _ => false
  | .node (.dt _) _ => false
  | .str l => decide (l.length ≤ 1000000)
  | _ => true
section
variable {K : PySem.W.Frag} {T : Tbs} {ba : Ba T} {ρ : Rho} {τ : Tau} {Q : DK} {P : En} {ta te : TE} {tA : TA} {x y : D} {w : World}
theorem rs_base {x' : D} {v : V} {H Z : Hp} {θ : List Addr} (h : RpS K Z θ v x) (e : x.rs τ = x') (hn : ∀ t xs, x' ≠ .node t xs) (hk : ∀ n, x' ≠ .tk n) : x = x' := by
  cases x with
  | tk n =>
    rw [D.rs_tk] at e
    split at e
    · exact absurd e.symm (hn _ _)
    · exact absurd e.symm (hk _)
  | _ => exact e
theorem tru_rs {x' : D} {v : V} {H Z : Hp} {θ : List Addr} (r : Rh K ba τ H Z θ) (h : RpS K Z θ v x) (e : x.rs τ = x') (hb : x'.trus = true) : TruV K v H x'.tru := by
  cases x' with
  | raw _ => cases hb
  | tk _ => cases hb
  | node t xs =>
    obtain ⟨a, vs, rfl, n1, r1⟩ := rs_node r h e
    have el : xs.isEmpty = vs.isEmpty := by
      cases r1 <;> rfl
    show TruV K (.ref a) H (!xs.isEmpty)
    rw [el]
    cases t with
    | lst => exact .inl ⟨vs, Evl.sq_of n1, rfl⟩
    | tup => exact .inr (.inl ⟨vs, NodeAt.sqT (t := .tup) (.inl rfl) n1, rfl⟩)
    | ktup => exact .inr (.inl ⟨vs, NodeAt.sqT (t := .ktup) (.inr rfl) n1, rfl⟩)
    | dk ks =>
      refine .inr (.inr ⟨_, n1.1, ?_⟩)
      have hl := n1.2
      cases vs with
      | nil =>
        cases ks with
        | nil => rfl
        | cons _ _ => simp at hl
      | cons _ _ =>
        cases ks with
        | nil => simp at hl
        | cons _ _ => rfl
    | dt ks => cases hb
    | obj C ns => cases hb
  | non =>
    have := rs_base (H := H) h e (fun _ _ z => nomatch z) (fun _ z => nomatch z)
    subst this
    rw [h.non]
    rfl
  | bl b =>
    have := rs_base (H := H) h e (fun _ _ z => nomatch z) (fun _ z => nomatch z)
    subst this
    rw [h.bl]
    rfl
  | int i =>
    have := rs_base (H := H) h e (fun _ _ z => nomatch z) (fun _ z => nomatch z)
    subst this
    rw [h.int]
    rfl
  | str l =>
    have := rs_base (H := H) h e (fun _ _ z => nomatch z) (fun _ z => nomatch z)
    subst this
    rw [h.str]
    refine ⟨by rw [S_len]; exact small (of_decide_eq_true hb), ?_⟩
    show (!l.isEmpty) = (((S l).length : Int) != 0)
    rw [S_len]
    cases l with
    | nil => rfl
    | cons a r => simp; omega
theorem w_tru {Q : Bool → Tau → Prop} (q : WE K ba ta ρ τ fun x τ1 => ∃ x', x.rs τ1 = x' ∧ x'.trus = true ∧ Q x'.tru τ1) : WT K ba (tTru K ta) ρ τ Q := fun σ H Z θ R I k =>
  q σ H Z θ _ I fun v H1 Z1 θ1 d τ1 r1 e1 p1 h1 ⟨x', hx, hb, q1⟩ => ⟨_, tru_rs r1 h1 hx hb, k _ _ _ _ _ r1 e1 p1 q1⟩
/-- enumerate of a text -/
theorem w_iEnumS {Q : (n : Nat) → (Nat → D) → (Tau → Prop) → Tau → Prop} (q : WA K ba tA ρ τ fun ds τ1 => ∃ l : List Nat, ds = [.str l] ∧ Q l.length (fun i => .tup [.int i, .str [l.getD i 0]]) (fun _ => True) τ1) : WI K ba (iEnumS tA) ρ τ Q := fun σ H Z θ R I k =>
  q σ H Z θ _ I fun vs H1 Z1 θ1 ds τ1 r1 e1 p1 h1 ⟨l, hd, q1⟩ => by
    subst hd
    cases h1 with
    | cons g1 g =>
      cases g
      refine ⟨l, by rw [g1.str], k (Iten (S l)) l.length _ _ H1 Z1 θ1 τ1 r1 e1 p1 ⟨fun i τ' H' Z' θ' r e p hg hi => ?_, fun τ' H' Z' θ' r e p hg => ?_, fun i τ' H' Z' θ' y H'' r e p hg hi hy => ?_⟩ q1⟩
      · show i < (S l).cps.size
        simpa [S] using hi
      · show (S l).cps.size ≤ l.length
        simp [S]
      · obtain ⟨T0, c, rfl, hT, rfl, hc⟩ := hy
        have hc' : l[i]? = some c := by simpa [S] using hc
        have : l.getD i 0 = c := by rw [List.getD_eq_getElem?_getD, hc']; rfl
        rw [this]
        obtain ⟨r2, e2⟩ := r.lay (o := .tup [.int (i : Nat), .str ⟨#[c]⟩]) hT
        exact ⟨_, r2, e2, .node (t := .tup) upd_same (.cons (.int _) (.cons (.str [c]) .nil))⟩
/-! ### built-ins -/
theorem d_str {i : Int} (h : i.natAbs.log2 < 1920) (q : Q (.str (toString i : Str).cps.toList) τ) : RC K ba (fun xs H Q => ∃ i, xs = [.int i] ∧ i.natAbs.log2 < 1920 ∧ Q (.str (toString i)) H) [.int i] τ Q := fun vs H Z θ R r g k => by
  cases g with
  | cons g1 g =>
    cases g
    rw [g1.int]
    refine ⟨i, rfl, h, ?_⟩
    rw [show (toString i : Str) = S (toString i : Str).cps.toList from lit _]
    exact k.now r (.str _) q
theorem d_int {i : Int} (q : Q (.int i) τ) : RC K ba rInt1 [.int i] τ Q := fun vs H Z θ R r g k => by
  cases g with
  | cons g1 g =>
    cases g
    rw [g1.int]
    exact ⟨i, rfl, k.now r (.int _) q⟩
theorem d_abs {i : Int} (q : Q (.int (if i < 0 then -i else i)) τ) : RC K ba rAbs [.int i] τ Q := fun vs H Z θ R r g k => by
  cases g with
  | cons g1 g =>
    cases g
    rw [g1.int]
    exact ⟨i, rfl, k.now r (.int _) q⟩
/-- tuple(x) -/
theorem d_tupL {xs : List D} (hx : x.rs τ = .lst xs) (q : Q (.tup xs) τ) : RU K ba (kTup K) x τ Q := fun v H Z θ R r g k => by
  obtain ⟨a, us, rfl, n1, s⟩ := rs_node r g hx
  exact .inl ⟨a, us, rfl, Evl.sq_of n1, k.lay r s na_tup q⟩
theorem d_tupT {xs : List D} (q : Q (.tup xs) τ) : RU K ba (kTup K) (.tup xs) τ Q := fun v H Z θ R r g k => by
  obtain ⟨a, us, rfl, n1, s⟩ := rs_node (x := .tup xs) r g rfl
  exact .inr ⟨a, us, rfl, NodeAt.sqT (t := .tup) (.inl rfl) n1, k _ _ _ _ _ _ r Ex.rfl' pre_rfl g q⟩
def rListU (K : PySem.W.Frag) : List V → Hp → VK → Prop := fun xs H Q => ∃ p ys, xs = [.ref p] ∧ (SqL K H p ys ∨ SqT K H p ys) ∧ ∀ l, H l = none → Q (.ref l) (upd H l (.lst ys))
theorem call_listU {X : Cx} : CallR X (.type "list") (rListU X.K) := call_list_of
theorem d_listL {xs : List D} (hx : x.rs τ = .lst xs) (q : Q (.lst xs) τ) : RC K ba (rListU K) [x] τ Q := fun vs H Z θ R r g k => by
  cases g with
  | cons g1 g =>
    cases g
    obtain ⟨a, us, rfl, n1, s⟩ := rs_node r g1 hx
    exact ⟨a, us, rfl, .inl (Evl.sq_of n1), k.lay r s na_lst q⟩
theorem d_listT {t : Tag} {xs : List D} (ht : t = .tup ∨ t = .ktup) (hx : x.rs τ = .node t xs) (q : Q (.lst xs) τ) : RC K ba (rListU K) [x] τ Q := fun vs H Z θ R r g k => by
  cases g with
  | cons g1 g =>
    cases g
    obtain ⟨a, us, rfl, n1, s⟩ := rs_node r g1 hx
    exact ⟨a, us, rfl, .inr (n1.sqT ht), k.lay r s na_lst q⟩
theorem bls_rp {Z : Hp} : ∀ {bs : List Bool} {us : List V}, RpA K Z us (bs.map .bl) → us = bs.map V.bl
  | [], _, h => by
    cases h
    rfl
  | b :: bs, _, h => by
    cases h with
    | cons h1 h2 =>
      cases h1
      rw [List.map_cons, bls_rp h2]
theorem d_all {bs : List Bool} (hx : x.rs τ = .lst (bs.map .bl)) (q : Q (.bl (bs.all id)) τ) : RC K ba (rAll K) [x] τ Q := fun vs H Z θ R r g k => by
  cases g with
  | cons g1 g =>
    cases g
    obtain ⟨a, us, rfl, n1, s⟩ := rs_node r g1 hx
    have e := bls_rp s
    subst e
    exact ⟨a, bs, rfl, Evl.sq_of n1, k.now r (.bl _) q⟩
theorem ints_rp {Z : Hp} : ∀ {bs : List Int} {us : List V}, RpA K Z us (bs.map .int) → us = bs.map V.int
  | [], _, h => by
    cases h
    rfl
  | b :: bs, _, h => by
    cases h with
    | cons h1 h2 =>
      cases h1
      rw [List.map_cons, ints_rp h2]
theorem d_sum {ns : List Int} (hx : x.rs τ = .lst (ns.map .int)) (q : Q (.int ns.sum) τ) : RC K ba (rSum K) [x] τ Q := fun vs H Z θ R r g k => by
  cases g with
  | cons g1 g =>
    cases g
    obtain ⟨a, us, rfl, n1, s⟩ := rs_node r g1 hx
    have e := ints_rp s
    subst e
    exact ⟨a, ns, rfl, Evl.sq_of n1, k.now r (.int _) q⟩
theorem d_repS {l : List Nat} {k : Int} (h0 : 0 ≤ k) (h1 : k < 2 ^ 62) (h : l.length * k.toNat ≤ sizeLine) (q : Q (.str (List.replicate k.toNat l).flatten) τ) : RD K ba rMulU (.str l) (.int k) τ Q := fun v u H Z θ R r g1 g2 c => .inr (.inl (by
  rw [g1.str, g2.int]
  exact ⟨l, k, rfl, rfl, h0, h1, h, c.now r (.str _) q⟩))
theorem d_mulI {i j : Int} (c : CMul i j) (q : Q (.int (i * j)) τ) : RD K ba rMulU (.int i) (.int j) τ Q := fun v u H Z θ R r g1 g2 k => .inl (by
  rw [g1.int, g2.int]
  exact ⟨i, j, rfl, rfl, c, k.now r (.int _) q⟩)
theorem d_repL {xs : List D} {k : Int} (hx : x.rs τ = .lst xs) (h0 : -(2 ^ 63) ≤ k) (h1 : k < 2 ^ 63) (h : xs.length * k.toNat ≤ sizeLine) (q : Q (.lst (List.replicate k.toNat xs).flatten) τ) : RD K ba rMulU x (.int k) τ Q := fun v u H Z θ R r g1 g2 c => .inr (.inr (by
  obtain ⟨a, us, rfl, n1, s⟩ := rs_node r g1 hx
  have rep : ∀ m : Nat, RpA K Z (List.replicate m us).flatten (List.replicate m xs).flatten := fun m => by
    induction m with
    | zero => exact .nil
    | succ m ih =>
      rw [List.replicate_succ, List.replicate_succ, List.flatten_cons, List.flatten_cons]
      exact s.append ih
  exact ⟨a, k, us, rfl, g2.int, n1, h0, h1, by rw [s.length]; exact h, c.lay r (rep _) na_lst q⟩))
/-! ### comparisons of numbers, of texts and of alike data -/
def rLtU (K : PySem.W.Frag) (g : Int → Int → Bool) (f : PyData → PyData → Bool) : R2 := fun x y H Q => rI0 (fun i j => .bl (g i j)) x y H Q ∨ rCmpP K f x y H Q
theorem op_ltU {X : Cx} (hu : X.A.units + 64 < cLine) : OpR X (compareOp .Lt) (rLtU X.K (fun i j => decide (i < j)) fun d e => PySem.W.dataLt d e) := op_lt.or (op_ltP hu)
theorem op_leU {X : Cx} (hu : X.A.units + 64 < cLine) : OpR X (compareOp .LtE) (rLtU X.K (fun i j => decide (i ≤ j)) fun d e => !PySem.W.dataLt e d) := op_le.or (op_leP hu)
theorem op_gtU {X : Cx} (hu : X.A.units + 64 < cLine) : OpR X (compareOp .Gt) (rLtU X.K (fun i j => decide (j < i)) fun d e => PySem.W.dataLt e d) := op_gt.or (op_gtP hu)
theorem op_geU {X : Cx} (hu : X.A.units + 64 < cLine) : OpR X (compareOp .GtE) (rLtU X.K (fun i j => decide (j ≤ i)) fun d e => !PySem.W.dataLt d e) := op_ge.or (op_geP hu)
theorem d_cmpI {g : Int → Int → Bool} {f : PyData → PyData → Bool} {i j : Int} (q : Q (.bl (g i j)) τ) : RD K ba (rLtU K g f) (.int i) (.int j) τ Q := fun v u H Z θ R r g1 g2 k => .inl (by
  rw [g1.int, g2.int]
  exact ⟨i, j, rfl, rfl, k.now r (.bl _) q⟩)
theorem d_cmpP {g : Int → Int → Bool} {f : PyData → PyData → Bool} {x' y' : D} {n m : Nat} (hx : x.rs τ = x') (hy : y.rs τ = y') (h1 : pln n x' = true) (h2 : pln m y' = true) (hn : min n m ≤ 60) (ha : PySem.W.alike x'.py y'.py = true) (hnn : x'.py ≠ .none) (q : Q (.bl (f x'.py y'.py)) τ) :
    RD K ba (rLtU K g f) x y τ Q := fun v u H Z θ R r g1 g2 k => .inr ⟨_, _, dp_rs r g1 hx h1, dp_rs r g2 hy h2, ha, hnn, (PL.of h1 h2 hn).2.2, k.now r (.bl _) q⟩
/-- a name that may still be a cell is closed here -/
def tFz (i : Nat) (u : TS) : TS := u
theorem pss_fz {X : Cx} {i : Nat} {sts : List Stmt} {u : TS} (h : PSs X sts u) : PSs X sts (tFz i u) := h
theorem w_fz1 {i n : Nat} {t' : Tag} {xs : List D} {u : TS} (h : ρ[i]? = some (some (.tk n))) (hn : τ[n]? = some (.nd t' xs)) (q : WS K ba u (clo n (.node t' xs) ρ) (τ.set n .dead) P) : WS K ba (tFz i u) ρ τ P := w_close n hn q
theorem w_fz0 {i : Nat} {u : TS} (q : WS K ba u ρ τ P) : WS K ba (tFz i u) ρ τ P := q
/-- a list that will be changed -/
def tLstC (t : TA) : TE := tLst t
theorem pe_lstC {X : Cx} {es : List Expr} {t : TA} {pos : Pos} (h : PA X es t) : PE X (.List es pos) (tLstC t) := pe_lst h
/-- a value that is a new list becomes a cell: the reading hands out a list that nothing else holds -/
def tNew (te : TE) : TE := te
theorem w_lstC' (q : WA K ba tA ρ τ fun xs τ1 => notk xs = true ∧ xs.length ≤ sizeLine ∧ Q (.tk τ1.length) (τ1 ++ [.lst xs])) : WE K ba (tLstC tA) ρ τ Q := w_lstC q
/-- the script -/
abbrev IsScript (ba : Ba T) (K : PySem.W.Frag) (x : D) : Prop := ∃ (a : Addr) (ns : List Int), x = .raw (.ref a) ∧ SqL K ba.Z a (ns.map V.int) ∧ ns.length ≤ 63
end
end Pu

set_option Elab.async false
set_option linter.all false
set_option maxRecDepth 100000
set_option maxHeartbeats 4000000
namespace Pu
open PySem PySem.Spec PyProof.Rows L2 Fg
section
variable {K : PySem.W.Frag} {T : Tbs} {ba : Ba T} {ρ : Rho} {τ : Tau} {Q : DK} {P : En} {ta te : TE} {tA : TA} {x y : D} {H H' Z : Hp} {θ : List Addr}
/-! ### a caught error -/
theorem d_isX {a C d : Addr} {c : V} {cv : Value} {b : Bool} {ns : List Str} {xs : List D} (hc : Caught K ba d ns xs) (E : ExcC K C) (hcv : ∀ u, RelV c u → u = cv) (hk : PySem.W.kitOne K (.ref C) cv = some b) (q : Q (.bl b) τ) :
    RC K ba (rIsX K a (.ref C) (some d)) [.raw (.ref a), .raw c] τ Q := fun vs H Z θ R r g k => by
  obtain ⟨us, h1, h2, h3⟩ := hc.ex
  cases g with
  | cons g1 g =>
    cases g with
    | cons g2 g =>
      cases g
      rw [g1.raw, g2.raw]
      exact ⟨C, c, cv, b, d, _, rfl, hcv, rfl, E, hk, rfl, r.ex _ _ (r.bz _ _ h1), k.now r (.bl _) q⟩
theorem refV {C : Addr} : ∀ u, RelV (V.ref C) u → u = .ref C := fun _ h => h
theorem tyV' {n : String} : ∀ u, RelV (V.ty n) u → u = .type n := fun _ h => h
theorem zip_look {Z : Hp} {f : Str} : ∀ {ns : List Str} {us : List V} {xs : List D} {x : D}, RpA K Z us xs → (List.zip ns xs).lookup f = some x → ∃ v, (List.zip ns us).lookup f = some v ∧ Rp K Z v x
  | [], _, _, _, _, e => by simp at e
  | n :: ns, _, _, _, .nil, e => by simp at e
  | n :: ns, _, _, x, .cons h r, e => by
    rw [List.zip_cons_cons] at e ⊢
    rw [List.lookup_cons] at e ⊢
    cases hb : f == n with
    | true =>
      rw [hb] at e
      have e : _ = x := Option.some.inj e
      subst e
      exact ⟨_, rfl, h⟩
    | false =>
      rw [hb] at e
      exact zip_look r e
theorem w_xf {a C d : Addr} {fld : Str} {ns : List Str} {xs : List D} {v : D} (hc : Caught K ba d ns xs) (hv : (List.zip ns xs).lookup fld = some v) (q : WE K ba te ρ τ fun x τ1 => x = .raw (.ref a) ∧ Q v τ1) : WE K ba (tXf a (.ref C) (some d) C fld te) ρ τ Q := fun σ H Z θ R I k =>
  q σ H Z θ _ I fun u H1 Z1 θ1 d1 τ1 r1 e1 p1 h1 ⟨hx, q1⟩ => by
    subst hx
    obtain ⟨us, c1, c2, c3⟩ := hc.ex
    obtain ⟨z, hz, hr⟩ := zip_look c3 hv
    exact ⟨h1.raw, rfl, d, _, z, rfl, r1.ex _ _ (r1.bz _ _ c1), hz, k _ _ _ _ _ _ r1 e1 p1 (.inr (hr.mono r1.bz)) q1⟩
/-! ### the draw is made; the law's own call -/
theorem Rh.addCell {d : Addr} {c : Cl} (r : Rh K ba τ H Z θ) (hz : CellOk K H Z d c) (hn : ∀ (n : Nat) (a : Addr) (c : Cl), θ[n]? = some a → τ[n]? = some c → c.live = true → a ≠ d) : Rh K ba (τ ++ [c]) H Z (θ ++ [d]) := by
  have spl : ∀ (n : Nat) (a : Addr) (c' : Cl), (θ ++ [d])[n]? = some a → (τ ++ [c])[n]? = some c' → (n < θ.length ∧ θ[n]? = some a ∧ τ[n]? = some c') ∨ (n = θ.length ∧ a = d ∧ c' = c) := fun n a c' ha hc => by
    by_cases hn : n < θ.length
    · rw [List.getElem?_append_left hn] at ha
      rw [List.getElem?_append_left (by rw [← r.len]; exact hn)] at hc
      exact .inl ⟨hn, ha, hc⟩
    · by_cases he : n = θ.length
      · subst he
        rw [List.getElem?_append_right (Nat.le_refl _)] at ha
        rw [r.len, List.getElem?_append_right (Nat.le_refl _)] at hc
        simp at ha hc
        exact .inr ⟨rfl, ha.symm, hc.symm⟩
      · rw [List.getElem?_eq_none (by rw [List.length_append, List.length_singleton]; omega)] at ha
        cases ha
  refine ⟨r.ex, r.bz, r.bt.trans (List.prefix_append _ _), r.tabs, r.ntb, by rw [List.length_append, List.length_append, r.len]; rfl, fun n a c' ha hc => ?_, fun m n a b c1 c2 ha hb hc hd lc ld hne => ?_⟩
  · rcases spl n a c' ha hc with ⟨_, h1, h2⟩ | ⟨_, rfl, rfl⟩
    · exact r.cell n a c' h1 h2
    · exact hz
  · rcases spl m a c1 ha hc with ⟨_, h1, h2⟩ | ⟨e1, h1, h2⟩
    · rcases spl n b c2 hb hd with ⟨_, h3, h4⟩ | ⟨e2, h3, h4⟩
      · exact r.ne m n a b c1 c2 h1 h3 h2 h4 lc ld hne
      · rw [h3]
        exact hn m a c1 h1 h2 lc
    · rcases spl n b c2 hb hd with ⟨_, h3, h4⟩ | ⟨e2, h3, h4⟩
      · rw [h1]
        exact fun z => hn n b c2 h3 h4 ld z.symm
      · exact absurd (e1.trans e2.symm) hne
def spDrawH (K : PySem.W.Frag) : Sp := fun vs H Q _ => ∃ (a : Addr) (ns : List Int), vs = [.ref a] ∧ SqL K H a (ns.map V.int) ∧ ns.length ≤ 63 ∧ ∀ c d H', H c = none → H d = none → Ex H H' → Dr ns c d H' → Q (.ref d) H'
theorem w_draw (q : WA K ba tA ρ τ fun ds τ1 => ∃ (a : Addr) (ns : List Int), ds = [.raw (.ref a)] ∧ SqL K ba.Z a (ns.map V.int) ∧ ns.length ≤ 63 ∧ Q (.tk τ1.length) (τ1 ++ [.draw])) : WE K ba (tCall (spDrawH K) [] L2.E0 tA) ρ τ Q := fun σ H Z θ R I k =>
  q σ H Z θ _ I fun vs H1 Z1 θ1 ds τ1 r1 e1 p1 h1 ⟨a, ns, hd, hs, hl, q1⟩ => by
    subst hd
    cases h1 with
    | cons g1 g =>
      cases g
      rw [g1.raw]
      refine ⟨a, ns, rfl, Evl.ex_l (r1.bz.trans r1.ex) hs, hl, fun c d H' hc hdn ex hdr => ?_⟩
      obtain ⟨r2, e2⟩ := r1.seen ex hc hdr.cells
      have zd : upd Z1 c (.lst (ns.map V.int)) d = none := by
        rw [upd_ne (Ne.symm hdr.ne)]
        exact Evl.fresh_back r1.ex hdn
      have r3 := r2.addCell (d := d) (c := .draw) ⟨zd, c, ns, hdr, upd_same⟩ fun n b c' hb hc' lc z => by
        have := (CellOk.some (r1.cell n b c' hb hc') lc).1
        rw [z] at this
        exact this hdn
      refine k _ _ _ _ _ _ r3 (e1.trans e2) (p1.trans (List.prefix_append _ _)) (.inl ⟨τ1.length, d, rfl, ?_, rfl⟩) q1
      rw [← r1.len, List.getElem?_append_right (Nat.le_refl _), Nat.sub_self]
      rfl
def spLaw (K : PySem.W.Frag) (T : Tbs) : Sp := fun vs H Q _ => ∃ (a : Addr) (ns : List Int), vs = [.ref a] ∧ SqL K H a (ns.map V.int) ∧ ns.length ≤ 63 ∧ LamX.Tabs T H ∧ ∀ H', Q (.bl true) H'
def endLaw : En := { nx := fun _ _ => False, rt := fun d _ => d = .bl true }
def noTab (H : Hp) : Hp := fun b => match H b with
  | some (.tbl _) => none
  | o => o
theorem noTab_ex (H : Hp) : Ex (noTab H) H := fun a o h => by
  unfold noTab at h
  split at h
  · cases h
  · exact h
theorem noTab_at {H : Hp} {a : Addr} {o : HO} (h : H a = some o) (n : ∀ ps, o ≠ .tbl ps) : noTab H a = some o := by
  unfold noTab
  split
  · rename_i ps e
    rw [h] at e
    exact absurd (Option.some.inj e) (n ps)
  · exact h
theorem noTab_nt (H : Hp) : ∀ a ps, noTab H a ≠ some (.tbl ps) := fun a ps z => by
  unfold noTab at z
  split at z
  · cases z
  · rename_i h
    exact h ps z
theorem noTab_l {H : Hp} {a : Addr} {xs : List V} (h : SqL K H a xs) : SqL K (noTab H) a xs := by
  rcases h with (h | ⟨o, h⟩) | h
  · exact .inl (.inl (noTab_at h (by nofun)))
  · exact .inl (.inr ⟨o, noTab_at h (by nofun)⟩)
  · exact .inr h
end
section
variable {P : Program} {w : World} {K : PySem.W.Frag} {T : Tbs} {mg : Str → Option Value} {base : Heap}
theorem okLaw {st : Stmt} {N : List Str} {k : Nat} {f : Addr} {fd : FuncData} (F : Fun K "law" "law" st f fd) (S : FnScope N ["_law_script"] (defScope st))
    (hbody : ∀ (cdv : Value) (A : Around) (outer : List Env) (s : Shared) (H : Hp) (E : XK) (ba : Ba T) (a : Addr) (ns : List Int), Room k (A.deeper (envOfC "law" (defScope st) s.heap.objs.size f cdv)) → SqL K ba.Z a (ns.map V.int) → ns.length ≤ 63 →
      ∃ t, PSs (cxOf L2.CX0 P w K mg base N "law" (defScope st) f cdv A outer s H E).nox (defBody st) t ∧ WS K ba t (startD N [.raw (.ref a)]) [] endLaw) : FnOk P w K mg base L2.CX0 (k + 1) f fd ["_law_script"] (spLaw K T) := by
  refine F.ok S (fun vs H Q E h => ?_) (fun cdv A outer s H vs Q E hr h => ?_)
  · obtain ⟨_, _, rfl, _⟩ := h
    rfl
  · obtain ⟨a, ns, rfl, hs, hl, ht, q⟩ := h
    obtain ⟨t, h1, h2⟩ := hbody cdv A outer s H E ⟨noTab H, []⟩ a ns hr (noTab_l hs) hl
    have r : Rh K (⟨noTab H, []⟩ : Ba T) [] H (noTab H) [] := ⟨noTab_ex H, Ex.rfl', pre_rfl, ht, noTab_nt H, rfl, fun n a c h => by simp at h, fun m n a b c d h => by simp at h⟩
    refine ⟨t, h1, h2 _ H (noTab H) [] _ (start_rl r (.cons (.inr (.raw _)) .nil)) ⟨fun _ _ _ _ _ _ _ _ _ z => z.elim, fun v H' Z' θ' d τ' r' e p h z => ?_, fun _ _ _ _ _ _ _ _ _ z => z.elim, fun _ _ _ _ _ _ _ _ _ z => z.elim⟩⟩
    subst z
    rw [h.bl]
    exact q H'
end
end Pu

set_option Elab.async false
set_option linter.all false
set_option maxRecDepth 100000
set_option maxHeartbeats 4000000
namespace Pu
open PySem PySem.Spec PyProof.Rows L2 Fg
section
variable {K : PySem.W.Frag} {T : Tbs} {ba : Ba T} {ρ : Rho} {τ : Tau} {Q : DK} {P : En} {ta te : TE} {tA : TA} {x y : D} {w : World}
theorem w_pair {R : D → D → Prop} (q : R x y) : ∃ a b, [x, y] = [a, b] ∧ R a b := ⟨x, y, rfl, q⟩
theorem w_bl {b : Bool} {R : Bool → Prop} (q : R b) : ∃ k, D.bl b = .bl k ∧ R k := ⟨b, rfl, q⟩
theorem w_in {i : Int} {R : Int → Prop} (q : R i) : ∃ k, D.int i = .int k ∧ R k := ⟨i, rfl, q⟩
def TruD (x : D) (τ : Tau) (Q : Bool → Prop) : Prop := ∃ x', x.rs τ = x' ∧ x'.trus = true ∧ Q x'.tru
theorem w_tru1 {Q : Bool → Tau → Prop} (q : WE K ba ta ρ τ fun x τ1 => TruD x τ1 fun b => Q b τ1) : WT K ba (tTru K ta) ρ τ Q := w_tru q
theorem t_bl {b : Bool} {Q : Bool → Prop} (q : Q b) : TruD (.bl b) τ Q := ⟨_, rfl, rfl, q⟩
theorem t_non {Q : Bool → Prop} (q : Q false) : TruD .non τ Q := ⟨_, rfl, rfl, q⟩
theorem t_int {i : Int} {Q : Bool → Prop} (q : Q (i != 0)) : TruD (.int i) τ Q := ⟨_, rfl, rfl, q⟩
theorem t_str {l : List Nat} {Q : Bool → Prop} (h : l.length ≤ 1000000) (q : Q (!l.isEmpty)) : TruD (.str l) τ Q := ⟨_, rfl, decide_eq_true h, q⟩
theorem t_lst {xs : List D} {Q : Bool → Prop} (h : x.rs τ = .lst xs) (q : Q (!xs.isEmpty)) : TruD x τ Q := ⟨_, h, rfl, q⟩
theorem t_tup {xs : List D} {Q : Bool → Prop} (h : x.rs τ = .tup xs) (q : Q (!xs.isEmpty)) : TruD x τ Q := ⟨_, h, rfl, q⟩
theorem w_tup' (q : WA K ba tA ρ τ fun xs τ1 => notk xs = true ∧ xs.length ≤ sizeLine ∧ Q (.tup xs) τ1) : WE K ba (tTup tA) ρ τ Q := w_tup q
theorem w_mk {xs : List D} {R : Prop} (h1 : notk xs = true) (h2 : xs.length ≤ sizeLine) (q : R) : notk xs = true ∧ xs.length ≤ sizeLine ∧ R := ⟨h1, h2, q⟩
theorem w_strE {l : List Nat} {R : List Nat → Prop} (q : R l) : ∃ m, D.str l = .str m ∧ R m := ⟨l, rfl, q⟩
theorem w_lstE {xs : List D} {R : List D → Prop} (h : x.rs τ = .lst xs) (q : R xs) : ∃ ys, x.rs τ = .lst ys ∧ R ys := ⟨xs, h, q⟩
theorem w_one {R : D → Prop} (h : notk [y] = true) (q : R y) : ∃ x, [y] = [x] ∧ notk [x] = true ∧ R x := ⟨y, rfl, h, q⟩
theorem w_T {A B : Prop} (h : A) : if true = true then A else B := h
theorem w_F {A B : Prop} (h : B) : if false = true then A else B := h
theorem w_T' {b : Bool} {A B : Prop} (e : b = true) (h : A) : if b = true then A else B := by rw [e]; exact h
theorem w_F' {b : Bool} {A B : Prop} (e : b = false) (h : B) : if b = true then A else B := by rw [e]; exact h
theorem w_nT {A B : Prop} (h : B) : if (!true) = true then A else B := h
theorem w_nF {A B : Prop} (h : A) : if (!false) = true then A else B := h
theorem w_bmS {r : V → List V → Hp → VK → Prop} {to : TE} (q : WE K ba to ρ τ fun x τ1 => ∃ l, x = .str l ∧ WA K ba tA ρ τ1 fun xs τ2 => RM K ba r (.str l) xs τ2 Q) : WE K ba (tBM K "str" r to tA) ρ τ Q :=
  w_bm fun σ H Z θ R I k => q σ H Z θ R I fun v H' Z' θ' d τ' rr e p h ⟨l, hl, q'⟩ => k v H' Z' θ' d τ' rr e p h (by
    subst hl
    exact ⟨ty_str, q'⟩)
theorem w_bmL {r : V → List V → Hp → VK → Prop} {to : TE} (q : WE K ba to ρ τ fun x τ1 => ∃ xs, x.rs τ1 = .lst xs ∧ WA K ba tA ρ τ1 fun ys τ2 => RM K ba r x ys τ2 Q) : WE K ba (tBM K "list" r to tA) ρ τ Q :=
  w_bm fun σ H Z θ R I k => q σ H Z θ R I fun v H' Z' θ' d τ' rr e p h ⟨l, hl, q'⟩ => k v H' Z' θ' d τ' rr e p h ⟨ty_lst hl, q'⟩
theorem eqv_str {a b : List Nat} : D.eqv (.str a) (.str b) = decide (a = b) := by
  show ((S a) == (S b)) = decide (a = b)
  rw [Bool.eq_iff_iff, beq_iff_eq, decide_eq_true_iff, S_eq]
theorem eqv_int {a b : Int} : D.eqv (.int a) (.int b) = decide (a = b) := by
  show (a == b) = decide (a = b)
  rw [Bool.eq_iff_iff, beq_iff_eq, decide_eq_true_iff]
theorem eqv_bl {a b : Bool} : D.eqv (.bl a) (.bl b) = decide (a = b) := by
  cases a <;> cases b <;> rfl
theorem d_eqS {a b : List Nat} (q : Q (.bl (decide (a = b))) τ) : RD K ba (rEqP K) (.str a) (.str b) τ Q := d_eq (n := 0) (m := 0) (x' := .str a) (y' := .str b) rfl rfl rfl rfl (by decide) (by rw [eqv_str]; exact q)
theorem d_neS {a b : List Nat} (q : Q (.bl (!decide (a = b))) τ) : RD K ba (rNeP K) (.str a) (.str b) τ Q := d_ne (n := 0) (m := 0) (x' := .str a) (y' := .str b) rfl rfl rfl rfl (by decide) (by rw [eqv_str]; exact q)
theorem d_eqI {a b : Int} (q : Q (.bl (decide (a = b))) τ) : RD K ba (rEqP K) (.int a) (.int b) τ Q := d_eq (n := 0) (m := 0) (x' := .int a) (y' := .int b) rfl rfl rfl rfl (by decide) (by rw [eqv_int]; exact q)
theorem d_neI {a b : Int} (q : Q (.bl (!decide (a = b))) τ) : RD K ba (rNeP K) (.int a) (.int b) τ Q := d_ne (n := 0) (m := 0) (x' := .int a) (y' := .int b) rfl rfl rfl rfl (by decide) (by rw [eqv_int]; exact q)
theorem d_eqB {a b : Bool} (q : Q (.bl (decide (a = b))) τ) : RD K ba (rEqP K) (.bl a) (.bl b) τ Q := d_eq (n := 0) (m := 0) (x' := .bl a) (y' := .bl b) rfl rfl rfl rfl (by decide) (by rw [eqv_bl]; exact q)
theorem d_neB {a b : Bool} (q : Q (.bl (!decide (a = b))) τ) : RD K ba (rNeP K) (.bl a) (.bl b) τ Q := d_ne (n := 0) (m := 0) (x' := .bl a) (y' := .bl b) rfl rfl rfl rfl (by decide) (by rw [eqv_bl]; exact q)
theorem d_ixL' {xs : List D} {i : Int} {d : D} (hx : x.rs τ = .lst xs) (h0 : 0 ≤ i) (h : xs[i.toNat]? = some d) (q : Q d τ) : RD K ba (rIxU K w) x (.int i) τ Q := d_ixL hx (by
  have e : i = ((i.toNat : Nat) : Int) := by omega
  rw [e]; exact atI_nat h) q
theorem d_ixT' {t : Tag} {xs : List D} (ht : t = .tup ∨ t = .ktup) {i : Int} {d : D} (hx : x.rs τ = .node t xs) (h0 : 0 ≤ i) (h : xs[i.toNat]? = some d) (q : Q d τ) : RD K ba (rIxU K w) x (.int i) τ Q := d_ixT ht hx (by
  have e : i = ((i.toNat : Nat) : Int) := by omega
  rw [e]; exact atI_nat h) q
theorem d_ixS' {l : List Nat} {i : Int} {c : Nat} (hl : l.length ≤ sizeLine) (h0 : 0 ≤ i) (h : l[i.toNat]? = some c) (q : Q (.str [c]) τ) : RD K ba (rIxU K w) (.str l) (.int i) τ Q := d_ixS hl (by
  have e : i = ((i.toNat : Nat) : Int) := by omega
  rw [e]; exact atI_nat h) q
theorem w_ite {p : Prop} [Decidable p] {A B : Prop} (h1 : p → A) (h2 : ¬ p → B) : if decide p = true then A else B := r_ite h1 h2
theorem w_iteN {p : Prop} [Decidable p] {A B : Prop} (h1 : ¬ p → A) (h2 : p → B) : if (!decide p) = true then A else B := r_iteN h1 h2
theorem w_iteB {b : Bool} {A B : Prop} (h1 : b = true → A) (h2 : b = false → B) : if b = true then A else B := r_iteB h1 h2
theorem w_iteNB {b : Bool} {A B : Prop} (h1 : b = false → A) (h2 : b = true → B) : if (!b) = true then A else B := r_iteNB h1 h2
theorem kb_dict_int : kitB "dict" "int" = some false := by decide +kernel
theorem kb_dict_bool : kitB "dict" "bool" = some false := by decide +kernel
theorem kb_dict_str : kitB "dict" "str" = some false := by decide +kernel
theorem kb_dict_list : kitB "dict" "list" = some false := by decide +kernel
theorem kb_dict_tuple : kitB "dict" "tuple" = some false := by decide +kernel
def D.isStr : D → Bool
  | .str _ => true
  | _ => false
def D.isInt : D → Bool
  | .int _ => true
  | .bl _ => true
  | _ => false
def D.isBool : D → Bool
  | .bl _ => true
  | _ => false
def D.isLst : D → Bool
  | .node .lst _ => true
  | _ => false
def D.isTup : D → Bool
  | .node .tup _ => true
  | .node .ktup _ => true
  | _ => false
theorem kit_str : ∀ x : D, x.base = true → kitB x.ty "str" = some x.isStr
  | .non, _ => kb_NoneType_str
  | .bl _, _ => kb_bool_str
  | .int _, _ => kb_int_str
  | .str _, _ => kb_str_str
  | .node .tup _, _ => kb_tuple_str
  | .node .ktup _, _ => kb_tuple_str
  | .node .lst _, _ => kb_list_str
  | .node (.dk _) _, _ => kb_dict_str
  | .node (.dt _) _, _ => kb_dict_str
  | .node (.obj _ _) _, h => nomatch h
  | .raw _, h => nomatch h
  | .tk _, h => nomatch h
theorem d_isStr {x' : D} (hx : x.rs τ = x') (hb : x'.base = true) (q : Q (.bl x'.isStr) τ) : RC K ba (rIsi K) [x, .raw (.ty "str")] τ Q := d_isi hx hb (kit_str x' hb) q
theorem kit_int : ∀ x : D, x.base = true → kitB x.ty "int" = some x.isInt
  | .non, _ => kb_NoneType_int
  | .bl _, _ => kb_bool_int
  | .int _, _ => kb_int_int
  | .str _, _ => kb_str_int
  | .node .tup _, _ => kb_tuple_int
  | .node .ktup _, _ => kb_tuple_int
  | .node .lst _, _ => kb_list_int
  | .node (.dk _) _, _ => kb_dict_int
  | .node (.dt _) _, _ => kb_dict_int
  | .node (.obj _ _) _, h => nomatch h
  | .raw _, h => nomatch h
  | .tk _, h => nomatch h
theorem d_isInt {x' : D} (hx : x.rs τ = x') (hb : x'.base = true) (q : Q (.bl x'.isInt) τ) : RC K ba (rIsi K) [x, .raw (.ty "int")] τ Q := d_isi hx hb (kit_int x' hb) q
theorem kit_bool : ∀ x : D, x.base = true → kitB x.ty "bool" = some x.isBool
  | .non, _ => kb_NoneType_bool
  | .bl _, _ => kb_bool_bool
  | .int _, _ => kb_int_bool
  | .str _, _ => kb_str_bool
  | .node .tup _, _ => kb_tuple_bool
  | .node .ktup _, _ => kb_tuple_bool
  | .node .lst _, _ => kb_list_bool
  | .node (.dk _) _, _ => kb_dict_bool
  | .node (.dt _) _, _ => kb_dict_bool
  | .node (.obj _ _) _, h => nomatch h
  | .raw _, h => nomatch h
  | .tk _, h => nomatch h
theorem d_isBool {x' : D} (hx : x.rs τ = x') (hb : x'.base = true) (q : Q (.bl x'.isBool) τ) : RC K ba (rIsi K) [x, .raw (.ty "bool")] τ Q := d_isi hx hb (kit_bool x' hb) q
theorem kit_list : ∀ x : D, x.base = true → kitB x.ty "list" = some x.isLst
  | .non, _ => kb_NoneType_list
  | .bl _, _ => kb_bool_list
  | .int _, _ => kb_int_list
  | .str _, _ => kb_str_list
  | .node .tup _, _ => kb_tuple_list
  | .node .ktup _, _ => kb_tuple_list
  | .node .lst _, _ => kb_list_list
  | .node (.dk _) _, _ => kb_dict_list
  | .node (.dt _) _, _ => kb_dict_list
  | .node (.obj _ _) _, h => nomatch h
  | .raw _, h => nomatch h
  | .tk _, h => nomatch h
theorem d_isLst {x' : D} (hx : x.rs τ = x') (hb : x'.base = true) (q : Q (.bl x'.isLst) τ) : RC K ba (rIsi K) [x, .raw (.ty "list")] τ Q := d_isi hx hb (kit_list x' hb) q
theorem kit_tuple : ∀ x : D, x.base = true → kitB x.ty "tuple" = some x.isTup
  | .non, _ => kb_NoneType_tuple
  | .bl _, _ => kb_bool_tuple
  | .int _, _ => kb_int_tuple
  | .str _, _ => kb_str_tuple
  | .node .tup _, _ => kb_tuple_tuple
  | .node .ktup _, _ => kb_tuple_tuple
  | .node .lst _, _ => kb_list_tuple
  | .node (.dk _) _, _ => kb_dict_tuple
  | .node (.dt _) _, _ => kb_dict_tuple
  | .node (.obj _ _) _, h => nomatch h
  | .raw _, h => nomatch h
  | .tk _, h => nomatch h
theorem d_isTup {x' : D} (hx : x.rs τ = x') (hb : x'.base = true) (q : Q (.bl x'.isTup) τ) : RC K ba (rIsi K) [x, .raw (.ty "tuple")] τ Q := d_isi hx hb (kit_tuple x' hb) q
theorem base_rs {d : D} (h : d.base = true) : d.rs τ = d := by
  cases d with
  | tk n => cases h
  | _ => rfl
theorem rs_non : D.non.rs τ = .non := rfl
theorem rs_bl {b : Bool} : (D.bl b).rs τ = .bl b := rfl
theorem rs_int {b : Int} : (D.int b).rs τ = .int b := rfl
theorem rs_str {b : List Nat} : (D.str b).rs τ = .str b := rfl
theorem rs_nd {t : Tag} {b : List D} : (D.node t b).rs τ = .node t b := rfl
theorem rs_cell {n : Nat} {t : Tag} {b : List D} (h : τ[n]? = some (.nd t b)) : (D.tk n).rs τ = .node t b := by
  rw [D.rs_tk, h]
theorem nr_non  : ∀ v, D.non ≠ .raw v := fun _ z => by cases z
theorem nr_bl {b : Bool} : ∀ v, D.bl b ≠ .raw v := fun _ z => by cases z
theorem nr_int {i : Int} : ∀ v, D.int i ≠ .raw v := fun _ z => by cases z
theorem nr_str {l : List Nat} : ∀ v, D.str l ≠ .raw v := fun _ z => by cases z
theorem nr_tk {n : Nat} : ∀ v, D.tk n ≠ .raw v := fun _ z => by cases z
theorem nr_nd {t : Tag} {xs : List D} : ∀ v, D.node t xs ≠ .raw v := fun _ z => by cases z
theorem nr_base {d : D} (h : d.base = true) : ∀ v, d ≠ .raw v := fun v z => by
  subst z
  cases h
def rDivU : R2 := fun x y H Q => rI CDiv (fun i j => .int (i / j)) x y H Q ∨ rI CDivW (fun i j => .int (i / j)) x y H Q
theorem op_divU {X : Cx} : OpR X (binaryOp .FloorDiv) rDivU := op_fdiv.or op_fdivW
theorem d_div {i j : Int} (h : 0 < j ∧ j < 1073741824) (q : Q (.int (i / j)) τ) : RD K ba rDivU (.int i) (.int j) τ Q := fun v u H Z θ R r g1 g2 k => .inl (by
  rw [g1.int, g2.int]
  exact ⟨i, j, rfl, rfl, h, k.now r (.int _) q⟩)
theorem d_divW {i j : Int} (h : CDivW i j) (q : Q (.int (i / j)) τ) : RD K ba rDivU (.int i) (.int j) τ Q := fun v u H Z θ R r g1 g2 k => .inr (by
  rw [g1.int, g2.int]
  exact ⟨i, j, rfl, rfl, h, k.now r (.int _) q⟩)
theorem hu1 {k : Nat} {A : Around} (hr : Room k A) : A.units + 1 < cLine := by have := hr.un; omega
theorem app_at {τ : Tau} {ex : Tau} {n : Nat} {c : Cl} (h : τ[n]? = some c) : (τ ++ ex)[n]? = some c := by
  rw [List.getElem?_append_left (List.getElem?_eq_some_iff.mp h).1]
  exact h
theorem app_last {τ : Tau} {c : Cl} : (τ ++ [c])[τ.length]? = some c := (last_at (θ := List.replicate τ.length 0) (D0 := 0) (by simp)).1
theorem app_last2 {τ : Tau} {c d : Cl} : (τ ++ [c] ++ [d])[τ.length]? = some c := app_at app_last
theorem app_lastL {τ : Tau} {c d : Cl} : (τ ++ [c] ++ [d])[(τ ++ [c]).length]? = some d := app_last
theorem set_at {τ : Tau} {ex : Tau} {n : Nat} {c : Cl} (h : n < τ.length) : (τ ++ ex).set n c = τ.set n c ++ ex := List.set_append_left _ _ h
theorem w_rng1 {a : Int} {R : Int → Prop} (h : -1000000 ≤ a ∧ a ≤ 1000000) (q : R a) : ∃ n : Int, [D.int a] = [.int n] ∧ -1000000 ≤ n ∧ n ≤ 1000000 ∧ R n := ⟨a, rfl, h.1, h.2, q⟩
theorem w_rng2 {a b : Int} {R : Int → Int → Prop} (h : (-1000000 ≤ a ∧ a ≤ 1000000) ∧ (-1000000 ≤ b ∧ b ≤ 1000000)) (q : R a b) : ∃ m n : Int, [D.int a, D.int b] = [.int m, .int n] ∧ (-1000000 ≤ m ∧ m ≤ 1000000) ∧ (-1000000 ≤ n ∧ n ≤ 1000000) ∧ R m n := ⟨a, b, rfl, h.1, h.2, q⟩
theorem out_last {Qd : DK} {d : D} {c : Cl} (h : notk [d] = true) (q : Qd d τ) : Out τ.length Qd d (τ ++ [c]) := out_more h q
theorem out_lastS {Qd : DK} {d : D} {c e : Cl} (h : notk [d] = true) (q : Qd d τ) : Out τ.length Qd d ((τ ++ [c]).set τ.length e) := by
  rw [set_last]
  exact out_more h q
end
end Pu

set_option Elab.async false
set_option linter.all false
set_option maxRecDepth 100000
set_option maxHeartbeats 4000000
namespace Pu
open PySem PySem.Spec PyProof.Rows L2 Fg LamX NdefX
/-! ### a def whose code object is known -/
structure DefdC (K : PySem.W.Frag) (mg : Str → Option Value) (x : Str) (st : Stmt) (ps : List Str) (c : Addr) : Prop where
  ex : ∃ (f : Addr) (oc : Value) (od an : Option Addr) (kV doc pm ct : Value) (osl : Array (Option Value)), K.lookup f = some ⟨oc, od, .func (PySem.W.fnOf x x (defArgs st) (defBody st) (defScope st) .none kV doc pm an (.ref c) ct), osl⟩ ∧
    PySem.W.codeIn K (.ref c) x = true ∧ PySem.W.keepIn K (.ref f) = true ∧ mg x = some (.ref f) ∧ Binds K (PySem.W.fnOf x x (defArgs st) (defBody st) (defScope st) .none kV doc pm an (.ref c) ct) ps []
theorem canC {P : Program} {w : World} {K : PySem.W.Frag} {mg : Str → Option Value} {base : Heap} {x : Str} {st : Stmt} {N ps : List Str} {c : Addr} {k : Nat} {sp : Sp} (F : DefdC K mg x st ps c) (Sc : FnScope N ps (defScope st)) (len : ∀ vs H Q E, sp vs H Q E → vs.length = ps.length)
    (hbody : ∀ (f : Addr) (A : Around) (outer : List Env) (s : Shared) (H : Hp) (vs : List V) (Q : VK) (E : XK), Room k (A.deeper (envOfC x (defScope st) s.heap.objs.size f (.ref c))) → sp vs H Q E →
      ∃ t, PSs (cxOf L2.CX0 P w K mg base N x (defScope st) f (.ref c) A outer s H E).nox (defBody st) t ∧ t { nx := fun _ H' => Q .non H', rt := Q } (start N vs) H) : Can P w K mg base L2.CX0 (k + 1) x ps sp := by
  obtain ⟨f, oc, od, an, kV, doc, pm, ct, osl, lk, hcd, kp, hm, b⟩ := F.ex
  refine ⟨f, _, fn_of lk hcd Sc len fun A outer s H vs Q E hr hsp => ?_, hm, kp, b⟩
  obtain ⟨t, h, q⟩ := hbody f A outer s H vs Q E hr hsp
  exact ⟨t, h.nox, q⟩
theorem defdc_do {R : Prop} {K : PySem.W.Frag} {h : Heap} {mg : Str → Option Value} (X : K.In h) (G : h.Ns mainGlobals mg) (x : Str) (st : Stmt) (ps : List Str) {f c : Addr} {oc : Value} {od an : Option Addr} {osl : Array (Option Value)} {kV doc pm ct : Value}
    (a : PySem.W.nsIn K mainGlobals x = some (some (.ref f)))
    (l : K.lookup f = some ⟨oc, od, .func (PySem.W.fnOf x x (defArgs st) (defBody st) (defScope st) .none kV doc pm an (.ref c) ct), osl⟩)
    (cd : PySem.W.codeIn K (.ref c) x = true) (k : PySem.W.keepIn K (.ref f) = true)
    (b : ∀ (kV doc pm : Value) (an : Option Addr) (cdv ct : Value) (us : List Value), us.length = ps.length → bindArgs (PySem.W.fnOf x x (defArgs st) (defBody st) (defScope st) .none kV doc pm an cdv ct) ⟨us, []⟩ = pure (ps.zip us))
    (n : DefdC K mg x st ps c → R) : R := n ⟨f, oc, od, an, kV, doc, pm, ct, osl, l, cd, k, PySem.W.mg_of X G a, .all (b kV doc pm an (.ref c) ct)⟩
theorem canDC {P : Program} {w : World} {K : PySem.W.Frag} {T : Tbs} {mg : Str → Option Value} {base : Heap} {x : Str} {st : Stmt} {N ps : List Str} {c : Addr} {k : Nat} {sp : SpD} (F : DefdC K mg x st ps c) (S : FnScope N ps (defScope st)) (len : ∀ ds τ Q E, sp ds τ Q E → ds.length = ps.length)
    (hbody : ∀ (f : Addr) (A : Around) (outer : List Env) (s : Shared) (H : Hp) (E : XK) (ba : Ba T) (ds : List D) (τ : Tau) (Qd : DK) (Ed : XD), Room k (A.deeper (envOfC x (defScope st) s.heap.objs.size f (.ref c))) → sp ds τ Qd Ed →
      ∃ t, PSs (cxOf L2.CX0 P w K mg base N x (defScope st) f (.ref c) A outer s H E).nox (defBody st) t ∧ WS K ba t (startD N ds) τ (endD τ Qd)) : Can P w K mg base L2.CX0 (k + 1) x ps (mkSp K T sp) :=
  canC F S (fun vs H Q E ⟨ba, ds, τ, Z, θ, Qd, Ed, _, h, q, _⟩ => by rw [h.length]; exact len _ _ _ _ q) fun f A outer s H vs Q E hr ⟨ba, ds, τ, Z, θ, Qd, Ed, r, h, q, c, _⟩ => by
    obtain ⟨t, h1, h2⟩ := hbody f A outer s H E ⟨Z, θ⟩ ds τ Qd Ed hr q
    have co := out_co r.len r.bt c r.bz
    refine ⟨t, h1, h2 _ H Z θ _ (start_rl (r.rebase Ex.rfl' pre_rfl) h) ⟨fun ρ' τ' σ' H' Z' θ' I e p q => co _ _ _ _ _ _ I.rh e p (.inr .non) q, co, fun _ _ _ _ _ _ _ _ _ z => z.elim, fun _ _ _ _ _ _ _ _ _ z => z.elim⟩⟩
section
variable {K : PySem.W.Frag} {T : Tbs} {ba : Ba T} {ρ : Rho} {τ : Tau} {Q : DK} {P : En} {te : TE} {H H' Z : Hp} {θ : List Addr}
/-- the tables have grown -/
theorem Rh.extN (r : Rh K ba τ H Z θ) (e : ExtN H H') (t : Tabs T H') : Rh K ba τ H' Z θ :=
  ⟨fun a u ha => e _ _ (r.ex a u ha) fun ps z => r.ntb a ps (by rw [ha, z]), r.bz, r.bt, t, r.ntb, r.len, fun n a c ha hc => by
    have k := r.cell n a c ha hc
    cases c with
    | dead => trivial
    | draw =>
      obtain ⟨za, c, ns, hdr, zc⟩ := k
      obtain ⟨i, m, big, cnt, b, he, r'⟩ := hdr.ex
      exact ⟨za, c, ns, ⟨hdr.ne, e _ _ hdr.cells (fun _ z => by cases z), i, m, big, cnt, b, e _ _ he (fun _ z => by cases z), r'⟩, zc⟩
    | nd t xs =>
      obtain ⟨za, vs, u, hu, hk, hr⟩ := k
      exact ⟨za, vs, u, e _ _ hu (ho_tab hk).1, hk, hr⟩, r.ne⟩
/-- min(x, key=lambda text: (len(text), text)) -/
theorem w_minKey (q : WE K ba te ρ τ fun x τ1 => ∃ ts : List (List Nat), x.rs τ1 = .lst (ts.map .str) ∧ ts ≠ [] ∧ (∀ t ∈ ts, t.length ≤ sizeLine) ∧ ∀ m, m ∈ ts → (∀ t ∈ ts, leIS m t) → Q (.str m) τ1) : WE K ba (tMinKey T K te) ρ τ Q := fun σ H Z θ R I k =>
  q σ H Z θ _ I fun v H1 Z1 θ1 x τ1 r1 e1 p1 h1 ⟨ts, hx, hne, hz, hq⟩ => by
    obtain ⟨a, us, rfl, n1, s⟩ := rs_node r1 h1 hx
    have e : us = ts.map fun l => V.str (S l) := by
      clear n1 hz hq hne h1 hx
      induction ts generalizing us with
      | nil => cases s; rfl
      | cons l ls ih =>
        cases s with
        | cons s1 s2 =>
          cases s1
          rw [List.map_cons, ih _ s2]
    subst e
    exact ⟨r1.tabs, a, ts, rfl, Evl.sq_of n1, hne, hz, fun H2 m eN tb hm hle => k _ H2 Z1 θ1 (.str m) τ1 (r1.extN eN tb) e1 p1 (.inr (.str m)) (hq m hm hle)⟩
/-! ### an answer that is handed out as a cell -/
def tRetK (te : TE) : TS := tRet te
theorem ps_retK {X : Cx} {e : Expr} {te : TE} {pos : Pos} (h : PE X e te) : PS X (.Return (some e) pos) (tRetK te) := ps_ret h
theorem w_retK (q : WE K ba te ρ τ P.rt) : WS K ba (tRetK te) ρ τ P := w_ret q
theorem out_cell {Qd : DK} {c : Cl} (q : Qd (.tk τ.length) (τ ++ [c])) : Out τ.length Qd (.tk τ.length) (τ ++ [c]) :=
  ⟨τ ++ [c], [], by simp, by simp, fun m z => by
    injection z with z
    rw [← z]
    simp, q⟩
/-- a statement with a told middle -/
theorem w_cut {t u : TS} (J : Rho → Tau → Prop) (q1 : WS K ba t ρ τ { P with nx := J }) (q2 : ∀ ρ' τ', J ρ' τ' → WS K ba u ρ' τ' P) : WS K ba (Evl.tCut t u) ρ τ P := fun σ H Z θ De I F =>
  ⟨fun σ' H' => ∃ ρ' τ' Z' θ', Rl K ba ρ' τ' σ' H' Z' θ' ∧ Ex Z Z' ∧ θ <+: θ' ∧ J ρ' τ', q1 σ H Z θ _ I ⟨fun ρ' τ' σ' H' Z' θ' I' e p q => ⟨ρ', τ', Z', θ', I', e, p, q⟩, F.rt, F.bk, F.ct⟩, fun σ' H' ⟨ρ', τ', Z', θ', I', e, p, j⟩ => q2 ρ' τ' j σ' H' Z' θ' De I' (F.step e p)⟩
/-- `<=` of two pairs: a whole number and a text -/
theorem d_leIS {n m : Int} {l r : List Nat} (q : Q (.bl (decide (n < m ∨ n = m ∧ l ≤ r))) τ) : RD K ba (rLeIS K) (.tup [.int n, .str l]) (.tup [.int m, .str r]) τ Q := fun v u H Z θ R r1 g1 g2 k => by
  obtain ⟨a, vs, rfl, n1, s1⟩ := rs_node r1 g1 rs_nd
  obtain ⟨b, us, rfl, n2, s2⟩ := rs_node r1 g2 rs_nd
  cases s1 with
  | cons a1 s1 =>
    cases s1 with
    | cons a2 s1 =>
      cases s1
      cases s2 with
      | cons b1 s2 =>
        cases s2 with
        | cons b2 s2 =>
          cases s2
          cases a1
          cases a2
          cases b1
          cases b2
          exact ⟨a, b, n, m, l, r, rfl, rfl, Evl.st_of n1, Evl.st_of n2, k.now r1 (.bl _) q⟩
theorem d_eqI0 {i j : Int} (q : Q (.bl (decide (i = j))) τ) : RD K ba rEq (.int i) (.int j) τ Q := fun v u H Z θ R r g1 g2 k => by
  rw [g1.int, g2.int]
  exact r_eqI (k.now r (.bl _) q)
theorem sp_pick {d : D} {j : Int} {E : XD} (h1 : IsDraw τ d) (h2 : j < 2 ^ 200) (q : ∀ k, 0 ≤ k → (k < j ∨ k = 0) → Q (.int k) τ) : spPickD [d, .int j] τ Q E := ⟨d, .int j, rfl, j, h1, rfl, h2, q⟩
theorem isDraw_app {ex : Tau} {d : D} (h : IsDraw τ d) : IsDraw (τ ++ ex) d := by
  obtain ⟨n, rfl, hn⟩ := h
  exact ⟨n, rfl, app_at hn⟩
theorem get_gd {l : List Nat} {i : Nat} (h : i < l.length) : l[i]? = some (l.getD i 0) := by
  rw [List.getD_eq_getElem?_getD, List.getElem?_eq_getElem h]
  rfl
/-! ### a try whose body is named -/
def tTry (K : PySem.W.Frag) (c : Value) (i : Nat) (tb : WX → TS) (ts : Addr → Value → Option Addr → TS) (Wout : WX) : TS := fun D σ H => tb (wAs K c i ts Wout D) D σ H
theorem ps_tryW {X : Cx} {x n : Str} {c : Value} {i : Nat} {body suite : List Stmt} {b₀ : Stmt} {np pos pos' : Pos} {tb : WX → TS} {ts : Addr → Value → Option Addr → TS} {Wout : WX} (hs : X.stack = X.env :: X.outer) (hf : X.env.frame = some X.env.locals) (hN : X.N.Nodup) (hi : X.N[i]? = some n) (hln : X.env.kindOf n = some .local) (hc : Names X x c) (tk : Takes X Wout)
    (hb : ∀ (W : WX) (pn : List (Addr × Obj)) (xe : Value → Shared → Prop), Takes (X.tr pn xe) W → PassesOwn (model X.prog X.w) X.A X.env xe → PSs (X.tr pn xe) body (tb W))
    (hsu : ∀ (a : Addr) (oe : Obj) (cls : Value) (d : Option Addr) (pn : List (Addr × Obj)), Zc cls d oe → (∃ vs, oe.data = .fields vs) → PSs (X.suite a ((a, oe) :: pn)) (b₀ :: suite) (ts a cls d)) :
    PS X (.Try body [.ExceptHandler (some (.Name x np)) (some n) (b₀ :: suite) pos'] [] [] pos) (tTry X.K c i tb ts Wout) := ps_try_as hs hf hN hi hln hc tk hb hsu
theorem w_tryW {c : Value} {i : Nat} {tb : WX → TS} {ts : Addr → Value → Option Addr → TS} {Wout : WX} (q : ∀ (bt : Ba T) (W : WX), ba.Le bt → CoW K bt (Taken K bt c i ts P) W → WS K bt (tb W) ρ τ P) : WS K ba (tTry K c i tb ts Wout) ρ τ P := w_try q
/-! ### closing -/
theorem clo_nil {n : Nat} {d : D} : clo n d [] = [] := rfl
theorem clo_none {n : Nat} {d : D} {r : Rho} : clo n d (none :: r) = none :: clo n d r := rfl
theorem clo_str {n : Nat} {d : D} {r : Rho} {l : List Nat} : clo n d (some (.str l) :: r) = some (.str l) :: clo n d r := rfl
theorem clo_int {n : Nat} {d : D} {r : Rho} {i : Int} : clo n d (some (.int i) :: r) = some (.int i) :: clo n d r := rfl
theorem clo_bl {n : Nat} {d : D} {r : Rho} {b : Bool} : clo n d (some (.bl b) :: r) = some (.bl b) :: clo n d r := rfl
theorem clo_non {n : Nat} {d : D} {r : Rho} : clo n d (some .non :: r) = some .non :: clo n d r := rfl
theorem clo_node {n : Nat} {d : D} {r : Rho} {t : Tag} {xs : List D} : clo n d (some (.node t xs) :: r) = some (.node t xs) :: clo n d r := rfl
theorem clo_tk {n : Nat} {d : D} {r : Rho} : clo n d (some (.tk n) :: r) = some d :: clo n d r := by
  unfold clo
  rw [List.map_cons]
  simp
theorem clo_ne {m n : Nat} {d : D} {r : Rho} (h : m ≠ n) : clo n d (some (.tk m) :: r) = some (.tk m) :: clo n d r := by
  unfold clo
  rw [List.map_cons]
  simp [h]
theorem lt_at {n : Nat} {c : Cl} (h : τ[n]? = some c) : n < τ.length := (List.getElem?_eq_some_iff.mp h).1
theorem ne_at {n : Nat} {c : Cl} (h : τ[n]? = some c) : n ≠ τ.length := Nat.ne_of_lt (lt_at h)
theorem ne_at' {n : Nat} {c : Cl} (h : τ[n]? = some c) : τ.length ≠ n := (ne_at h).symm
end
end Pu

set_option Elab.async false
set_option linter.all false
set_option maxRecDepth 100000
set_option maxHeartbeats 4000000
namespace Fg
open PySem PySem.Spec PyProof.Rows L2
/-! ### lcm, int(digits) -/
def rLcm : List V → Hp → VK → Prop := fun vs H Q => ∃ a b : Nat, vs = [.int (a : Int), .int (b : Int)] ∧ a < 2 ^ 13000 ∧ b < 2 ^ 13000 ∧ Q (.int ((Nat.lcm a b : Nat) : Int)) H
theorem log_lt {n k : Nat} (h : n < 2 ^ k) (hk : 0 < k) : n.log2 < k := by
  by_cases h0 : n = 0
  · subst h0; rw [Nat.log2_zero]; exact hk
  · exact (Nat.log2_lt h0).mpr h
theorem cr_lcm {X : Cx} : CallR X (.builtin "math.lcm") rLcm := by
  intro pins s σ H vs us Q I r h
  obtain ⟨a, b, rfl, ha, hb, q⟩ := h
  obtain ⟨t, u, rfl⟩ := Vals.int2 r
  have e1 : Nat.lcm 1 ((a : Int)).natAbs = a := by rw [Int.natAbs_natCast, Nat.lcm_one_left]
  have l1 : a.log2 < 13000 := log_lt ha (by decide)
  have l2 : b.log2 < 13000 := log_lt hb (by decide)
  have hm : ∀ x y : Nat, x.log2 < 13000 → y.log2 < 13000 → ¬ (max x y).log2 / 30 + 1 > 450 := by
    intro x y hx hy
    rcases Nat.le_total x y with z | z
    · rw [Nat.max_eq_right z]; omega
    · rw [Nat.max_eq_left z]; omega
  have hl : (Nat.lcm a b).log2 < bitsLine := by
    have h1 : Nat.lcm a b ≤ a * b := by
      by_cases hz : a * b = 0
      · rcases Nat.mul_eq_zero.mp hz with z | z <;> subst z <;> simp
      · exact Nat.le_of_dvd (Nat.pos_of_ne_zero hz) (Nat.lcm_dvd_mul a b)
    have h2 : a * b < 2 ^ 26000 := by
      have := Nat.mul_lt_mul'' ha hb
      rwa [← Nat.pow_add] at this
    exact Nat.lt_of_lt_of_le (log_lt (Nat.lt_of_le_of_lt h1 h2) (by decide)) (by decide)
  have g := PySem.W.mg_run_lcm (a : Int) t (b : Int) u (by rw [Int.natAbs_natCast]; exact hm 1 a (by decide) l1) (by rw [Int.natAbs_natCast, Int.natAbs_natCast]; exact hm a b l1 l2) (by rw [e1, Int.natAbs_natCast, Int.natAbs_natCast]; exact hl)
  rw [e1, Int.natAbs_natCast] at g
  exact PySem.call_function_meets PySem.W.MGF.kind_lcm PySem.W.MGF.plain_lcm PySem.W.MGF.entry_lcm (PySem.W.MGF.args_lcm _ _) g.meets ⟨.int _, H, I.tok _, ⟨_, rfl⟩, q⟩
def dval (l : List Nat) : Nat := l.foldl (fun a c => 10 * a + (c - 48)) 0
theorem dig3 : ∀ a b c : Fin 10, PySem.intText? (S [48 + a.val, 48 + b.val, 48 + c.val]) = some ((100 * a.val + 10 * b.val + c.val : Nat) : Int) := by decide +kernel
theorem dig2 : ∀ a b : Fin 10, PySem.intText? (S [48 + a.val, 48 + b.val]) = some ((10 * a.val + b.val : Nat) : Int) := by decide +kernel
theorem dig1 : ∀ a : Fin 10, PySem.intText? (S [48 + a.val]) = some ((a.val : Nat) : Int) := by decide +kernel
def isDig (c : Nat) : Bool := decide (48 ≤ c ∧ c ≤ 57)
theorem dig_of {c : Nat} (h : isDig c = true) : ∃ a : Fin 10, c = 48 + a.val := by
  have h := of_decide_eq_true h
  exact ⟨⟨c - 48, by omega⟩, by show c = 48 + (c - 48); omega⟩
theorem int_digits {l : List Nat} (h1 : l ≠ []) (h3 : l.length ≤ 3) (hd : ∀ c ∈ l, isDig c = true) : PySem.intText? (S l) = some ((dval l : Nat) : Int) := by
  match l, h1, h3, hd with
  | [a], _, _, hd =>
    obtain ⟨x, rfl⟩ := dig_of (hd a (by simp))
    rw [dig1 x]
    congr 2
    show x.val = 10 * 0 + (48 + x.val - 48)
    omega
  | [a, b], _, _, hd =>
    obtain ⟨x, rfl⟩ := dig_of (hd a (by simp))
    obtain ⟨y, rfl⟩ := dig_of (hd b (by simp))
    rw [dig2 x y]
    congr 2
    show 10 * x.val + y.val = 10 * (10 * 0 + (48 + x.val - 48)) + (48 + y.val - 48)
    omega
  | [a, b, c], _, _, hd =>
    obtain ⟨x, rfl⟩ := dig_of (hd a (by simp))
    obtain ⟨y, rfl⟩ := dig_of (hd b (by simp))
    obtain ⟨z, rfl⟩ := dig_of (hd c (by simp))
    rw [dig3 x y z]
    congr 2
    show 100 * x.val + 10 * y.val + z.val = 10 * (10 * (10 * 0 + (48 + x.val - 48)) + (48 + y.val - 48)) + (48 + z.val - 48)
    omega
  | _ :: _ :: _ :: _ :: _, _, h3, _ => exact absurd h3 (by simp)
end Fg

set_option Elab.async false
set_option linter.all false
set_option maxRecDepth 100000
set_option maxHeartbeats 4000000
namespace Rt
open Fg
/-! ### rhythm texts as they are read: what is left, beats, row; an error: how much is left there -/
abbrev Got := List Nat × Nat × List Nat
abbrev Res := Except Nat Got
def isSg (c : Nat) : Bool := decide (c = 46 ∨ c = 103 ∨ c = 114 ∨ c = 119)
def kept (b : Nat) (r : List Nat) : List Nat := if b ≤ 24 then r else []
def dsOf (s : List Nat) : List Nat := s.takeWhile isDig
def rsOf (s : List Nat) : List Nat := s.dropWhile isDig
def rep (t : Nat) (r : List Nat) : List Nat := (List.replicate t r).flatten
def grp (inner : Option (List Nat → Res)) (t : Nat) (r : List Nat) : Res := match inner with
  | none => .error (r.length + 1)
  | some f => match f r with
    | .error e => .error e
    | .ok (r2, b, row) => .ok (r2.drop 1, t * b, kept (t * b) (rep t row))
def rdItem (inner : Option (List Nat → Res)) (s : List Nat) : Res :=
  match dsOf s with
  | [] => .ok (s.drop 1, 1, s.take 1)
  | d :: ds =>
    if d = 48 then .error s.length
    else match rsOf s with
      | [] => .error 0
      | c :: r =>
        if isSg c = true then (if 2 ≤ dval ((d :: ds).take 3) ∧ dval ((d :: ds).take 3) ≤ 24 then .ok (r, dval ((d :: ds).take 3), List.replicate (dval ((d :: ds).take 3)) c) else .error s.length)
        else if c = 40 then
          (if 2 ≤ dval ((d :: ds).take 3) ∧ dval ((d :: ds).take 3) ≤ 24 then
            grp inner (dval ((d :: ds).take 3)) r
          else .error s.length)
        else .error (r.length + 1)
def goes (s : List Nat) : Bool := match s with
  | [] => false
  | c :: _ => isSg c || isDig c
def rdItems (item : List Nat → Res) : Nat → List Nat → Nat → List Nat → Res
  | 0, s, b, r => .ok (s, b, r)
  | n + 1, s, b, r => if goes s = true then
      match item s with
      | .error e => .error e
      | .ok (s2, m, g) => rdItems item n s2 (b + m) (kept (b + m) (r ++ g))
    else .ok (s, b, r)
def rdWhole (s : List Nat) (b : Nat) (row : List Nat) : Res := match dsOf s with
  | [] => .error s.length
  | d :: ds => if d = 48 then .error s.length else
    if b ≤ dval ((d :: ds).take 3) ∧ dval ((d :: ds).take 3) ≤ 24 then .ok (rsOf s, dval ((d :: ds).take 3), row ++ List.replicate (dval ((d :: ds).take 3) - b) 46) else .error s.length
def rdPart (item : List Nat → Res) (s : List Nat) : Res := match rdItems item s.length s 0 [] with
  | .error e => .error e
  | .ok (s2, b, r) => if b = 0 then .error s2.length else
    match s2 with
    | [] => .ok (s2, b, r)
    | c :: s3 => if c = 64 then rdWhole s3 b r else .ok (s2, b, r)
def tog (b : Nat) (r : List Nat) (b2 : Nat) (r2 : List Nat) : List Nat :=
  if Nat.lcm b b2 ≤ 24 then (List.range (Nat.lcm b b2)).map fun i => if (r[i % b]?).getD 0 = 46 then (r2[i % b2]?).getD 0 else (r[i % b]?).getD 0 else []
def rdJoin (part : List Nat → Res) : Nat → List Nat → Nat → List Nat → Res
  | 0, s, b, r => .ok (s, b, r)
  | n + 1, s, b, r => match s with
    | [] => .ok (s, b, r)
    | c :: s2 => if c = 38 then
        match part s2 with
        | .error e => .error e
        | .ok (s3, b2, r2) => rdJoin part n s3 (Nat.lcm b b2) (tog b r b2 r2)
      else .ok (s, b, r)
def endOf : Bool → List Nat
  | true => []
  | false => [41]
def rdParts (part : List Nat → Res) (top : Bool) (s : List Nat) : Res := match part s with
  | .error e => .error e
  | .ok (s2, b, r) => match rdJoin part s2.length s2 b r with
    | .error e => .error e
    | .ok (s3, b3, r3) => if s3.take 1 = endOf top then .ok (s3, b3, r3) else .error s3.length
def rdAt : Nat → Bool → List Nat → Res
  | 0, top, s => rdParts (rdPart (rdItem none)) top s
  | n + 1, top, s => rdParts (rdPart (rdItem (some (rdAt n false)))) top s
def innerOf : Nat → Option (List Nat → Res)
  | 0 => none
  | n + 1 => some (rdAt n false)
theorem rdAt_eq (n : Nat) (top : Bool) (s : List Nat) : rdAt n top s = rdParts (rdPart (rdItem (innerOf n))) top s := by cases n <;> rfl

/-! ### what is got: a rest, beats that are not too many, a row of as many signs -/
structure Fine (s : List Nat) (g : Got) : Prop where
  suf : ∃ k, 1 ≤ k ∧ k ≤ s.length ∧ g.1 = s.drop k ∧ g.2.1 ≤ 2 ^ (6 * k)
  pos : 1 ≤ g.2.1
  row : g.2.1 ≤ 24 → g.2.2.length = g.2.1 ∧ ∀ c ∈ g.2.2, isSg c = true
  non : 24 < g.2.1 → g.2.2 = []
def Ok (f : List Nat → Res) (when : List Nat → Prop) : Prop := ∀ s g, when s → f s = .ok g → Fine s g
theorem two_add {a b : Nat} (ha : 2 ≤ a) (hb : 2 ≤ b) : a + b ≤ a * b := by
  obtain ⟨x, rfl⟩ : ∃ x, a = x + 2 := ⟨a - 2, by omega⟩
  obtain ⟨y, rfl⟩ : ∃ y, b = y + 2 := ⟨b - 2, by omega⟩
  have : (x + 2) * (y + 2) = x * y + 2 * x + 2 * y + 4 := by
    rw [Nat.add_mul, Nat.mul_add, Nat.mul_add]; omega
  omega
theorem pow_split {a b : Nat} : 2 ^ (6 * (a + b)) = 2 ^ (6 * a) * 2 ^ (6 * b) := by rw [Nat.mul_add, Nat.pow_add]
theorem pow_two {k : Nat} (h : 1 ≤ k) : 64 ≤ 2 ^ (6 * k) := by
  obtain ⟨x, rfl⟩ : ∃ x, k = 1 + x := ⟨k - 1, by omega⟩
  rw [pow_split]
  have : 1 ≤ 2 ^ (6 * x) := Nat.one_le_two_pow
  calc 64 = 2 ^ (6 * 1) * 1 := by decide
    _ ≤ _ := Nat.mul_le_mul_left _ this
theorem ds_rs (s : List Nat) : dsOf s ++ rsOf s = s := List.takeWhile_append_dropWhile
theorem rs_drop (s : List Nat) : rsOf s = s.drop (dsOf s).length := by
  have h := ds_rs s
  conv => rhs; rw [← h]
  rw [h]
  have : s = dsOf s ++ rsOf s := h.symm
  conv => rhs; arg 2; rw [this]
  rw [List.drop_left]
theorem tw_mem {p : Nat → Bool} : ∀ (s : List Nat) (c : Nat), c ∈ s.takeWhile p → p c = true
  | [], c, h => by cases h
  | x :: r, c, h => by
    rw [List.takeWhile_cons] at h
    split at h
    · rcases List.mem_cons.mp h with rfl | h
      · assumption
      · exact tw_mem r c h
    · cases h
theorem ds_dig (s : List Nat) : ∀ c ∈ dsOf s, isDig c = true := fun c h => tw_mem s c h
theorem len_rs (s : List Nat) : (dsOf s).length + (rsOf s).length = s.length := by
  rw [← List.length_append, ds_rs]
theorem rep_len (t : Nat) (r : List Nat) : (rep t r).length = t * r.length := by
  unfold rep
  induction t with
  | zero => simp
  | succ t ih => rw [List.replicate_succ, List.flatten_cons, List.length_append, ih, Nat.succ_mul]; omega
theorem rep_mem {t : Nat} {r : List Nat} {c : Nat} (h : c ∈ rep t r) : c ∈ r := by
  obtain ⟨l, h1, h2⟩ := List.mem_flatten.mp h
  rw [List.eq_of_mem_replicate h1] at h2
  exact h2
theorem ok_item {inner : Option (List Nat → Res)} (hi : ∀ f, inner = some f → ∀ s g, f s = .ok g → Fine s g ∧ g.1 ≠ []) : Ok (rdItem inner) (fun s => goes s = true) := by
  intro s g hg h
  unfold rdItem at h
  have hl := len_rs s
  have hd := rs_drop s
  split at h
  · rename_i hds
    cases h
    cases s with
    | nil => cases hg
    | cons c r =>
      refine ⟨⟨1, Nat.le_refl _, by simp, rfl, by show (1 : Nat) ≤ 2 ^ (6 * 1); decide⟩, Nat.le_refl _, fun _ => ⟨rfl, fun x hx => ?_⟩, fun z => absurd z (by show ¬ 24 < 1; decide)⟩
      have hx2 : x = c := by simpa using hx
      subst hx2
      have g2 : (isSg x || isDig x) = true := hg
      rcases Bool.or_eq_true_iff.mp g2 with z | z
      · exact z
      · unfold dsOf at hds
        rw [List.takeWhile_cons, z] at hds
        cases hds
  · rename_i d ds hds
    rw [hds] at hl hd
    rw [List.length_cons] at hl
    split at h
    · cases h
    · split at h
      · cases h
      · rename_i c r hrs
        rw [hrs] at hl hd
        rw [List.length_cons] at hl hd
        generalize dval ((d :: ds).take 3) = t at h
        have hr : r = s.drop (ds.length + 2) := by
          have e : (c :: r).drop 1 = (s.drop (ds.length + 1)).drop 1 := by rw [hd]
          rw [List.drop_drop] at e
          simpa using e
        split at h
        · rename_i hsg
          split at h
          · rename_i ht
            cases h
            refine ⟨⟨ds.length + 2, by omega, by omega, hr, ?_⟩, by show 1 ≤ t; omega, fun _ => ⟨List.length_replicate, fun x hx => by rw [List.eq_of_mem_replicate hx]; exact hsg⟩, fun z => absurd z (by show ¬ 24 < t; omega)⟩
            have := pow_two (k := ds.length + 2) (by omega)
            show t ≤ _
            omega
          · cases h
        · split at h
          · split at h
            · rename_i ht
              unfold grp at h
              split at h
              · cases h
              · rename_i f
                split at h
                · cases h
                · rename_i r2 b row hf
                  cases h
                  obtain ⟨F, ne⟩ := hi f rfl _ _ hf
                  obtain ⟨k, k1, k2, k3, k4⟩ := F.suf
                  have k3' : r2 = r.drop k := k3
                  have k4' : b ≤ 2 ^ (6 * k) := k4
                  have p1 : 1 ≤ b := F.pos
                  have kl : k < r.length := by
                    rcases Nat.lt_or_ge k r.length with z | z
                    · exact z
                    · exact absurd (by show r2 = []; rw [k3', List.drop_eq_nil_of_le z]) ne
                  refine ⟨⟨ds.length + 2 + (k + 1), by omega, by omega, ?_, ?_⟩, ?_, ?_, ?_⟩
                  · show r2.drop 1 = _
                    rw [k3', hr, List.drop_drop, List.drop_drop, Nat.add_assoc]
                  · show t * b ≤ _
                    rw [show ds.length + 2 + (k + 1) = (ds.length + 3) + k by omega, pow_split]
                    refine Nat.mul_le_mul ?_ k4'
                    have := pow_two (k := ds.length + 3) (by omega)
                    omega
                  · show 1 ≤ t * b
                    exact Nat.mul_pos (by omega) p1
                  · intro hz
                    have hz' : t * b ≤ 24 := hz
                    have hb : b ≤ 24 := Nat.le_trans (Nat.le_mul_of_pos_left b (by omega)) hz'
                    obtain ⟨e1, e2⟩ := F.row hb
                    show (kept (t * b) (rep t row)).length = t * b ∧ _
                    unfold kept
                    rw [if_pos hz']
                    exact ⟨by rw [rep_len]; show t * row.length = _; rw [show row.length = b from e1], fun x hx => e2 x (rep_mem hx)⟩
                  · intro hz
                    have hz' : ¬ t * b ≤ 24 := Nat.not_le.mpr hz
                    show kept (t * b) (rep t row) = []
                    unfold kept
                    rw [if_neg hz']
            · cases h
          · cases h
/-- so far in a part: k signs gone, b beats -/
structure Far (s0 : List Nat) (s : List Nat) (b : Nat) (r : List Nat) : Prop where
  suf : ∃ k, k ≤ s0.length ∧ s = s0.drop k ∧ (k = 0 → b = 0) ∧ b ≤ 2 ^ (6 * k) ∧ (1 ≤ k → 1 ≤ b)
  row : b ≤ 24 → r.length = b ∧ ∀ c ∈ r, isSg c = true
  non : 24 < b → r = []
theorem far_step {s0 s s2 : List Nat} {b m : Nat} {r g : List Nat} (F : Far s0 s b r) (G : Fine s (s2, m, g)) : Far s0 s2 (b + m) (kept (b + m) (r ++ g)) ∧ s2.length < s.length := by
  obtain ⟨k, k1, k2, k3, k4, k5⟩ := F.suf
  obtain ⟨j, j1, j2, j3, j4⟩ := G.suf
  have j3' : s2 = s.drop j := j3
  have j4' : m ≤ 2 ^ (6 * j) := j4
  have p1 : 1 ≤ m := G.pos
  have sl : s.length = s0.length - k := by rw [k2, List.length_drop]
  refine ⟨⟨⟨k + j, by omega, by rw [j3', k2, List.drop_drop], fun z => by omega, ?_, fun _ => by omega⟩, ?_, ?_⟩, ?_⟩
  · rw [pow_split]
    rcases Nat.eq_zero_or_pos k with z | z
    · subst z
      rw [k3 rfl, Nat.zero_add]
      show m ≤ 1 * _
      omega
    · have h1 := pow_two z
      have h2 := pow_two j1
      have h3 := two_add (a := 2 ^ (6 * k)) (b := 2 ^ (6 * j)) (by omega) (by omega)
      omega
  · intro h
    obtain ⟨e1, e2⟩ := F.row (by omega)
    obtain ⟨e3, e4⟩ := G.row (by show m ≤ 24; omega)
    unfold kept
    rw [if_pos h]
    refine ⟨by rw [List.length_append, e1]; show b + g.length = _; rw [show g.length = m from e3], fun c hc => ?_⟩
    rcases List.mem_append.mp hc with hc | hc
    · exact e2 c hc
    · exact e4 c hc
  · intro h
    unfold kept
    rw [if_neg (by omega)]
  · rw [j3', List.length_drop]
    omega
theorem far_items {item : List Nat → Res} (hi : Ok item (fun s => goes s = true)) {s0 : List Nat} : ∀ (n : Nat) (s : List Nat) (b : Nat) (r : List Nat) (g : Got), Far s0 s b r → rdItems item n s b r = .ok g → Far s0 g.1 g.2.1 g.2.2
  | 0, s, b, r, g, F, h => by
    cases h
    exact F
  | n + 1, s, b, r, g, F, h => by
    unfold rdItems at h
    split at h
    · rename_i hg
      split at h
      · cases h
      · rename_i s2 m x hx
        exact far_items hi n _ _ _ g (far_step F (hi s _ hg hx)).1 h
    · cases h
      exact F
theorem far_start (s : List Nat) : Far s s 0 [] := ⟨⟨0, Nat.zero_le _, rfl, fun _ => rfl, Nat.zero_le _, fun z => absurd z (by decide)⟩, fun _ => ⟨rfl, fun c h => nomatch h⟩, fun z => absurd z (by decide)⟩
theorem far_fine {s0 s : List Nat} {b : Nat} {r : List Nat} (F : Far s0 s b r) (hb : b ≠ 0) : Fine s0 (s, b, r) := by
  obtain ⟨k, k1, k2, k3, k4, k5⟩ := F.suf
  have hk : 1 ≤ k := Nat.pos_of_ne_zero fun z => hb (k3 z)
  exact ⟨⟨k, hk, k1, k2, k4⟩, Nat.pos_of_ne_zero hb, F.row, F.non⟩
theorem ok_part {item : List Nat → Res} (hi : Ok item (fun s => goes s = true)) : Ok (rdPart item) (fun _ => True) := by
  intro s g _ h
  unfold rdPart at h
  split at h
  · cases h
  · rename_i s2 b r hr
    have F := far_items hi _ _ _ _ _ (far_start s) hr
    split at h
    · cases h
    · rename_i hb
      have G := far_fine F hb
      split at h
      · cases h
        exact G
      · rename_i c s3
        split at h
        · unfold rdWhole at h
          split at h
          · cases h
          · rename_i d ds hds
            split at h
            · cases h
            · split at h
              · rename_i hw
                cases h
                obtain ⟨k, k1, k2, k3, k4⟩ := G.suf
                have k3' : c :: s3 = s.drop k := k3
                have hl := len_rs s3
                have hd := rs_drop s3
                rw [hds] at hl hd
                rw [List.length_cons] at hl hd
                generalize dval ((d :: ds).take 3) = t at hw
                have sl : s3.length + 1 = s.length - k := by rw [← List.length_cons (a := c), k3', List.length_drop]
                have e3 : s3 = s.drop (k + 1) := by
                  have e : (c :: s3).drop 1 = (s.drop k).drop 1 := by rw [k3']
                  rw [List.drop_drop] at e
                  simpa using e
                have p1 : 1 ≤ b := G.pos
                refine ⟨⟨k + 1 + (ds.length + 1), by omega, by omega, ?_, ?_⟩, ?_, ?_, ?_⟩
                · show rsOf s3 = _
                  rw [hd, e3, List.drop_drop]
                · show t ≤ _
                  have := pow_two (k := k + 1 + (ds.length + 1)) (by omega)
                  omega
                · show 1 ≤ t
                  omega
                · intro _
                  obtain ⟨e1, e2⟩ := G.row (by show b ≤ 24; omega)
                  refine ⟨?_, fun x hx => ?_⟩
                  · show (r ++ List.replicate (t - b) 46).length = t
                    rw [List.length_append, show r.length = b from e1, List.length_replicate]
                    omega
                  · rcases List.mem_append.mp hx with hx | hx
                    · exact e2 x hx
                    · rw [List.eq_of_mem_replicate hx]
                      rfl
                · intro z
                  exact absurd z (by show ¬ 24 < t; omega)
              · cases h
        · cases h
          exact G
theorem getD_mem {r : List Nat} {i : Nat} (h : i < r.length) : (r[i]?).getD 0 ∈ r := by
  rw [List.getElem?_eq_getElem h]
  exact List.getElem_mem _
theorem lcm_le {a b : Nat} (ha : 1 ≤ a) (hb : 1 ≤ b) : a ≤ Nat.lcm a b ∧ b ≤ Nat.lcm a b ∧ 1 ≤ Nat.lcm a b ∧ Nat.lcm a b ≤ a * b := by
  have p : 0 < Nat.lcm a b := Nat.lcm_pos ha hb
  exact ⟨Nat.le_of_dvd p (Nat.dvd_lcm_left a b), Nat.le_of_dvd p (Nat.dvd_lcm_right a b), p, Nat.le_of_dvd (Nat.mul_pos ha hb) (Nat.lcm_dvd_mul a b)⟩
theorem fine_join {s0 s2 s3 : List Nat} {c b b2 : Nat} {r r2 : List Nat} (F : Fine s0 (c :: s2, b, r)) (G : Fine s2 (s3, b2, r2)) : Fine s0 (s3, Nat.lcm b b2, tog b r b2 r2) := by
  obtain ⟨k, k1, k2, k3, k4⟩ := F.suf
  obtain ⟨j, j1, j2, j3, j4⟩ := G.suf
  have k3' : c :: s2 = s0.drop k := k3
  have j3' : s3 = s2.drop j := j3
  have k4' : b ≤ 2 ^ (6 * k) := k4
  have j4' : b2 ≤ 2 ^ (6 * j) := j4
  have p1 : 1 ≤ b := F.pos
  have p2 : 1 ≤ b2 := G.pos
  obtain ⟨l1, l2, l3, l4⟩ := lcm_le p1 p2
  have e3 : s2 = s0.drop (k + 1) := by
    have e : (c :: s2).drop 1 = (s0.drop k).drop 1 := by rw [k3']
    rw [List.drop_drop] at e
    simpa using e
  have sl : s2.length + 1 = s0.length - k := by rw [← List.length_cons (a := c), k3', List.length_drop]
  refine ⟨⟨k + 1 + j, by omega, by omega, by show s3 = _; rw [j3', e3, List.drop_drop], ?_⟩, l3, ?_, ?_⟩
  · show Nat.lcm b b2 ≤ _
    rw [pow_split]
    refine Nat.le_trans l4 (Nat.mul_le_mul ?_ j4')
    refine Nat.le_trans k4' ?_
    exact Nat.pow_le_pow_right (by decide) (by omega)
  · intro h
    have h' : Nat.lcm b b2 ≤ 24 := h
    obtain ⟨e1, e2⟩ := F.row (by show b ≤ 24; omega)
    obtain ⟨e4, e5⟩ := G.row (by show b2 ≤ 24; omega)
    have e1' : r.length = b := e1
    have e4' : r2.length = b2 := e4
    show (tog b r b2 r2).length = Nat.lcm b b2 ∧ _
    unfold tog
    rw [if_pos h']
    refine ⟨by rw [List.length_map, List.length_range], fun x hx => ?_⟩
    have hx' : x ∈ (List.range (Nat.lcm b b2)).map fun i => if (r[i % b]?).getD 0 = 46 then (r2[i % b2]?).getD 0 else (r[i % b]?).getD 0 := hx
    obtain ⟨i, _, rfl⟩ := List.mem_map.mp hx'
    split
    · exact e5 _ (getD_mem (by rw [e4']; exact Nat.mod_lt _ p2))
    · exact e2 _ (getD_mem (by rw [e1']; exact Nat.mod_lt _ p1))
  · intro h
    have h' : ¬ Nat.lcm b b2 ≤ 24 := Nat.not_le.mpr h
    show tog b r b2 r2 = []
    unfold tog
    rw [if_neg h']
theorem ok_join {part : List Nat → Res} (hp : Ok part (fun _ => True)) {s0 : List Nat} : ∀ (n : Nat) (s : List Nat) (b : Nat) (r : List Nat) (g : Got), Fine s0 (s, b, r) → rdJoin part n s b r = .ok g → Fine s0 g
  | 0, s, b, r, g, F, h => by
    cases h
    exact F
  | n + 1, s, b, r, g, F, h => by
    unfold rdJoin at h
    split at h
    · cases h
      exact F
    · rename_i c s2
      split at h
      · split at h
        · cases h
        · rename_i s3 b2 r2 hx
          exact ok_join hp n _ _ _ g (fine_join F (hp s2 _ trivial hx)) h
      · cases h
        exact F
theorem ok_parts {part : List Nat → Res} (hp : Ok part (fun _ => True)) {top : Bool} {s : List Nat} {g : Got} (h : rdParts part top s = .ok g) : Fine s g ∧ (top = false → g.1 ≠ []) := by
  unfold rdParts at h
  split at h
  · cases h
  · rename_i s2 b r hx
    split at h
    · cases h
    · rename_i s3 b3 r3 hj
      split at h
      · rename_i ht
        cases h
        refine ⟨ok_join hp _ _ _ _ _ (hp s _ trivial hx) hj, fun z e => ?_⟩
        subst z
        have e' : s3 = [] := e
        rw [e'] at ht
        cases ht
      · cases h
theorem ok_at : ∀ (n : Nat) (top : Bool) (s : List Nat) (g : Got), rdAt n top s = .ok g → Fine s g ∧ (top = false → g.1 ≠ [])
  | 0, top, s, g, h => ok_parts (ok_part (ok_item (inner := none) fun f z => by cases z)) h
  | n + 1, top, s, g, h => ok_parts (ok_part (ok_item (inner := some (rdAt n false)) fun f z s g hf => by
      cases z
      obtain ⟨h1, h2⟩ := ok_at n false s g hf
      exact ⟨h1, h2 rfl⟩)) h
theorem inner_ok (n : Nat) : ∀ f, innerOf n = some f → ∀ s g, f s = .ok g → Fine s g ∧ g.1 ≠ [] := by
  intro f z s g hf
  cases n with
  | zero => cases z
  | succ n =>
    cases z
    obtain ⟨h1, h2⟩ := ok_at n false s g hf
    exact ⟨h1, h2 rfl⟩
end Rt

set_option Elab.async false
set_option linter.all false
set_option maxRecDepth 100000
set_option maxHeartbeats 4000000
namespace Rt
open Fg
/-! ### rhythm texts as they are written -/
abbrev It (α : Type) := Nat × (Nat ⊕ α)
abbrev Pt (α : Type) := List (It α) × Nat
abbrev Tx (α : Type) := List (Pt α)
def T : Nat → Type
  | 0 => Empty
  | n + 1 => Tx (T n)
def digs (t : Nat) : List Nat := if t < 10 then [48 + t] else [48 + t / 10, 48 + t % 10]
section
variable {α : Type}
def wItem (w : α → List Nat) (i : It α) : List Nat := (if 0 < i.1 then digs i.1 else []) ++ match i.2 with
  | .inl c => [c]
  | .inr x => 40 :: (w x ++ [41])
def wPart (w : α → List Nat) (p : Pt α) : List Nat := (p.1.map (wItem w)).flatten ++ (if 0 < p.2 then 64 :: digs p.2 else [])
def wText (w : α → List Nat) : Tx α → List Nat
  | [] => []
  | [p] => wPart w p
  | p :: q :: r => wPart w p ++ 38 :: wText w (q :: r)
def cItem (f : α → Nat) (i : It α) : Nat := max 1 i.1 * match i.2 with
  | .inl _ => 1
  | .inr x => f x
def cItems (f : α → Nat) (l : List (It α)) : Nat := (l.map (cItem f)).sum
def cPart (f : α → Nat) (p : Pt α) : Nat := if 0 < p.2 then p.2 else cItems f p.1
def cText (f : α → Nat) (ps : Tx α) : Nat := ps.foldl (fun a p => Nat.lcm a (cPart f p)) 1
def sItem (g : α → Nat → Nat) (i : It α) (s : Nat) : Nat := match i.2 with
  | .inl c => c
  | .inr x => g x s
def sItems (f : α → Nat) (g : α → Nat → Nat) : List (It α) → Nat → Nat
  | [], _ => 46
  | i :: r, s => if s < cItem f i then sItem g i s else sItems f g r (s - cItem f i)
def sText (f : α → Nat) (g : α → Nat → Nat) : Tx α → Nat → Nat
  | [], _ => 46
  | p :: r, s => if sItems f g p.1 (s % cPart f p) ≠ 46 then sItems f g p.1 (s % cPart f p) else sText f g r s
/-- what can be written, so that it is read back -/
def okItem (ok : α → Prop) (i : It α) : Prop := match i.2 with
  | .inl c => isSg c = true ∧ (i.1 = 0 ∨ 2 ≤ i.1 ∧ i.1 ≤ 24)
  | .inr x => 2 ≤ i.1 ∧ i.1 ≤ 24 ∧ ok x
def okPart (ok : α → Prop) (f : α → Nat) (p : Pt α) : Prop := p.1 ≠ [] ∧ (∀ i ∈ p.1, okItem ok i) ∧ (p.2 = 0 ∨ cItems f p.1 ≤ p.2 ∧ p.2 ≤ 24)
def okText (ok : α → Prop) (f : α → Nat) (ps : Tx α) : Prop := ps ≠ [] ∧ ∀ p ∈ ps, okPart ok f p
end
def wT : (n : Nat) → T n → List Nat
  | 0, x => nomatch x
  | n + 1, x => wText (wT n) x
def cT : (n : Nat) → T n → Nat
  | 0, x => nomatch x
  | n + 1, x => cText (cT n) x
def sT : (n : Nat) → T n → Nat → Nat
  | 0, x => nomatch x
  | n + 1, x => sText (cT n) (sT n) x
def okT : (n : Nat) → T n → Prop
  | 0, x => nomatch x
  | n + 1, x => okText (okT n) (cT n) x
def rowOf (m : Nat) (s : Nat → Nat) : List Nat := if m ≤ 24 then (List.range m).map s else []

theorem digs_dig : ∀ t : Fin 25, ∀ c ∈ digs t.val, isDig c = true := by decide +kernel
theorem digs_val : ∀ t : Fin 25, dval ((digs t.val).take 3) = t.val := by decide +kernel
theorem digs_hd : ∀ t : Fin 25, 0 < t.val → ∃ d ds, digs t.val = d :: ds ∧ d ≠ 48 := by
  intro t ht
  unfold digs
  split
  · exact ⟨_, _, rfl, by omega⟩
  · exact ⟨_, _, rfl, by omega⟩
theorem tw_app {p : Nat → Bool} : ∀ (a b : List Nat), (∀ c ∈ a, p c = true) → (∀ c ∈ b.head?, p c = false) → (a ++ b).takeWhile p = a ∧ (a ++ b).dropWhile p = b
  | [], [], _, _ => ⟨rfl, rfl⟩
  | [], c :: r, _, h => by
    have hc := h c (by simp)
    exact ⟨by simp [hc], by simp [hc]⟩
  | x :: a, b, h, k => by
    obtain ⟨h1, h2⟩ := tw_app a b (fun c hc => h c (List.mem_cons_of_mem _ hc)) k
    have hx := h x (List.mem_cons_self ..)
    exact ⟨by rw [List.cons_append, List.takeWhile_cons, hx]; simp [h1], by rw [List.cons_append, List.dropWhile_cons, hx]; simp [h2]⟩
theorem digs_rs {t : Nat} (h : t ≤ 24) {b : List Nat} (hb : ∀ c ∈ b.head?, isDig c = false) : dsOf (digs t ++ b) = digs t ∧ rsOf (digs t ++ b) = b :=
  tw_app _ _ (digs_dig ⟨t, by omega⟩) hb
theorem sg_dig {c : Nat} (h : isSg c = true) : isDig c = false := by
  have h := of_decide_eq_true h
  unfold isDig
  exact decide_eq_false (by omega)
theorem rep_range {m t : Nat} {s : Nat → Nat} (hp : ∀ k, s (k + m) = s k) : rep t ((List.range m).map s) = (List.range (t * m)).map s := by
  have hp2 : ∀ j k, s (k + j * m) = s k := by
    intro j
    induction j with
    | zero => intro k; rw [Nat.zero_mul, Nat.add_zero]
    | succ j ih => intro k; rw [Nat.succ_mul, ← Nat.add_assoc, hp, ih]
  unfold rep
  induction t with
  | zero => rw [Nat.zero_mul]; rfl
  | succ t ih =>
    rw [List.replicate_succ', List.flatten_append, ih, Nat.succ_mul, List.range_add, List.map_append, List.map_map]
    congr 1
    rw [List.flatten_cons, List.flatten_nil, List.append_nil]
    apply List.map_congr_left
    intro k _
    show s k = s (t * m + k)
    rw [Nat.add_comm, hp2]
section
variable {α : Type} {w : α → List Nat} {f : α → Nat} {g : α → Nat → Nat} {ok : α → Prop} {inner : Option (List Nat → Res)}
theorem rowOf_const {m c : Nat} (h : m ≤ 24) : rowOf m (fun _ => c) = List.replicate m c := by
  unfold rowOf
  rw [if_pos h]
  induction m with
  | zero => rfl
  | succ m ih => rw [List.range_succ, List.map_append, ih (by omega), List.replicate_succ']; rfl
theorem rd_item (hi : ∀ x, ok x → ∃ h, inner = some h ∧ ∀ rest, h (w x ++ 41 :: rest) = .ok (41 :: rest, f x, rowOf (f x) (g x))) (hp : ∀ x, ok x → ∀ k, g x (k + f x) = g x k) (hpos : ∀ x, ok x → 1 ≤ f x)
    (i : It α) (hok : okItem ok i) (rest : List Nat) : rdItem inner (wItem w i ++ rest) = .ok (rest, cItem f i, rowOf (cItem f i) (sItem g i)) := by
  obtain ⟨t, b⟩ := i
  cases b with
  | inl c =>
    obtain ⟨hc, ht⟩ := hok
    have hc' : isSg c = true := hc
    rcases ht with ht | ht
    · have ht' : t = 0 := ht
      subst ht'
      show rdItem inner (c :: rest) = .ok (rest, max 1 0 * 1, rowOf (max 1 0 * 1) (fun _ => c))
      have hd : dsOf (c :: rest) = [] := by
        unfold dsOf
        rw [List.takeWhile_cons, sg_dig hc']
        rfl
      unfold rdItem
      rw [hd]
      rfl
    · have ht' : 2 ≤ t ∧ t ≤ 24 := ht
      have e : wItem w (t, .inl c) ++ rest = digs t ++ c :: rest := by
        show ((if 0 < t then digs t else []) ++ [c]) ++ rest = _
        rw [if_pos (by omega), List.append_assoc]
        rfl
      obtain ⟨h1, h2⟩ := digs_rs ht'.2 (b := c :: rest) (fun x hx => by
        have : x = c := by simpa using hx.symm
        rw [this]; exact sg_dig hc')
      obtain ⟨d, ds, hd, hd48⟩ := digs_hd ⟨t, by omega⟩ (by show 0 < t; omega)
      have hd' : digs t = d :: ds := hd
      have hv : dval ((d :: ds).take 3) = t := by rw [← hd']; exact digs_val ⟨t, by omega⟩
      rw [hd'] at h1 h2
      rw [e]
      have em : cItem f (t, .inl c) = t := by
        show max 1 t * 1 = t
        rw [Nat.mul_one, Nat.max_eq_right (by omega)]
      rw [em]
      show _ = Except.ok (rest, t, rowOf t (fun _ => c))
      rw [rowOf_const ht'.2]
      unfold rdItem
      rw [hd', h1]
      simp only [if_neg hd48]
      rw [h2]
      simp only [hc', if_true]
      rw [hv, if_pos ht']
  | inr x =>
    obtain ⟨t2, t24, hx⟩ := hok
    have t2' : 2 ≤ t := t2
    have t24' : t ≤ 24 := t24
    have e : wItem w (t, .inr x) ++ rest = digs t ++ 40 :: (w x ++ 41 :: rest) := by
      show ((if 0 < t then digs t else []) ++ (40 :: (w x ++ [41]))) ++ rest = _
      rw [if_pos (by omega)]
      simp
    obtain ⟨h1, h2⟩ := digs_rs t24' (b := 40 :: (w x ++ 41 :: rest)) (fun y hy => by
      have : y = 40 := by simpa using hy.symm
      rw [this]; rfl)
    obtain ⟨d, ds, hd, hd48⟩ := digs_hd ⟨t, by omega⟩ (by show 0 < t; omega)
    have hd' : digs t = d :: ds := hd
    have hv : dval ((d :: ds).take 3) = t := by rw [← hd']; exact digs_val ⟨t, by omega⟩
    rw [hd'] at h1 h2
    rw [e]
    have em : cItem f (t, .inr x) = t * f x := by
      show max 1 t * f x = t * f x
      rw [Nat.max_eq_right (by omega)]
    rw [em]
    show _ = Except.ok (rest, t * f x, rowOf (t * f x) (g x))
    obtain ⟨h, hin, hr⟩ := hi x hx
    unfold rdItem
    rw [hd', h1]
    simp only [if_neg hd48]
    rw [h2]
    show (if isSg 40 = true then _ else _) = _
    rw [if_neg (show ¬ isSg 40 = true by decide), if_pos rfl, hv, if_pos ⟨t2', t24'⟩, hin]
    show (match h (w x ++ 41 :: rest) with
      | .error e => Except.error e
      | .ok (r2, b, row) => .ok (r2.drop 1, t * b, kept (t * b) (rep t row))) = _
    rw [hr rest]
    show Except.ok (rest, t * f x, kept (t * f x) (rep t (rowOf (f x) (g x)))) = _
    have er : kept (t * f x) (rep t (rowOf (f x) (g x))) = rowOf (t * f x) (g x) := by
      unfold kept rowOf
      by_cases z : t * f x ≤ 24
      · have z2 : f x ≤ 24 := Nat.le_trans (Nat.le_mul_of_pos_left _ (by omega)) z
        rw [if_pos z, if_pos z, if_pos z2]
        exact rep_range (hp x hx)
      · rw [if_neg z, if_neg z]
    rw [er]
theorem it_stop {item : List Nat → Res} {s : List Nat} (h : goes s = false) : ∀ (n b : Nat) (r : List Nat), rdItems item n s b r = .ok (s, b, r)
  | 0, b, r => rfl
  | n + 1, b, r => by
    unfold rdItems
    rw [h]
    rfl
theorem it_go {item : List Nat → Res} {s : List Nat} {n b : Nat} {r : List Nat} {s2 : List Nat} {m : Nat} {x : List Nat} (h : goes s = true) (hx : item s = .ok (s2, m, x)) : rdItems item (n + 1) s b r = rdItems item n s2 (b + m) (kept (b + m) (r ++ x)) := by
  show (if goes s = true then _ else _) = _
  rw [if_pos h, hx]
def rowsOf (f : α → Nat) (g : α → Nat → Nat) (l : List (It α)) : List Nat := (l.map fun i => rowOf (cItem f i) (sItem g i)).flatten
theorem item_goes {i : It α} (h : okItem ok i) (rest : List Nat) : goes (wItem w i ++ rest) = true := by
  obtain ⟨t, b⟩ := i
  by_cases ht : 0 < t
  · have hd : digs t ≠ [] := by unfold digs; split <;> simp
    have h24 : t ≤ 24 := by
      cases b with
      | inl c => rcases h.2 with z | z
                 · have z' : t = 0 := z
                   omega
                 · exact z.2
      | inr x => exact h.2.1
    have e : ∃ d r, wItem w (t, b) ++ rest = d :: r ∧ isDig d = true := by
      cases hq : digs t with
      | nil => exact absurd hq hd
      | cons d ds =>
        refine ⟨d, ?_⟩
        unfold wItem
        rw [if_pos ht, hq]
        exact ⟨_, rfl, digs_dig ⟨t, by omega⟩ d (by rw [hq]; exact List.mem_cons_self ..)⟩
    obtain ⟨d, r, e, hd2⟩ := e
    rw [e]
    show (isSg d || isDig d) = true
    rw [hd2, Bool.or_true]
  · have ht0 : t = 0 := by omega
    subst ht0
    cases b with
    | inl c =>
      show (isSg c || isDig c) = true
      rw [show isSg c = true from h.1]
      rfl
    | inr x =>
      have : 2 ≤ 0 := h.1
      omega
theorem rd_items {item : List Nat → Res} (HI : ∀ i, okItem ok i → ∀ rest, item (wItem w i ++ rest) = .ok (rest, cItem f i, rowOf (cItem f i) (sItem g i))) :
    ∀ (l : List (It α)) (n b : Nat) (r rest : List Nat), (∀ i ∈ l, okItem ok i) → goes rest = false → l.length ≤ n → (24 < b → r = []) →
      rdItems item n ((l.map (wItem w)).flatten ++ rest) b r = .ok (rest, b + cItems f l, kept (b + cItems f l) (r ++ rowsOf f g l))
  | [], n, b, r, rest, _, hr, _, hb => by
    show rdItems item n rest b r = .ok (rest, b + 0, kept (b + 0) (r ++ []))
    rw [it_stop hr, Nat.add_zero, List.append_nil]
    unfold kept
    split
    · rfl
    · rw [hb (by omega)]
  | i :: l, n, b, r, rest, ho, hr, hn, hb => by
    obtain ⟨k, rfl⟩ : ∃ k, n = k + 1 := ⟨n - 1, by rw [List.length_cons] at hn; omega⟩
    have oi := ho i (List.mem_cons_self ..)
    have e : ((i :: l).map (wItem w)).flatten ++ rest = wItem w i ++ ((l.map (wItem w)).flatten ++ rest) := by
      rw [List.map_cons, List.flatten_cons, List.append_assoc]
    rw [e, it_go (item_goes oi _) (HI i oi _)]
    rw [rd_items HI l k _ _ rest (fun j hj => ho j (List.mem_cons_of_mem _ hj)) hr (by rw [List.length_cons] at hn; omega) (fun z => by unfold kept; rw [if_neg (by omega)])]
    have ec : cItems f (i :: l) = cItem f i + cItems f l := by unfold cItems; rw [List.map_cons, List.sum_cons]
    have er : rowsOf f g (i :: l) = rowOf (cItem f i) (sItem g i) ++ rowsOf f g l := by unfold rowsOf; rw [List.map_cons, List.flatten_cons]
    rw [ec, er, ← Nat.add_assoc]
    by_cases z : b + cItem f i + cItems f l ≤ 24
    · have z2 : b + cItem f i ≤ 24 := by omega
      unfold kept
      rw [if_pos z, if_pos z, if_pos z2, List.append_assoc]
    · unfold kept
      rw [if_neg z, if_neg z]
theorem cItem_pos (hpos : ∀ x, ok x → 1 ≤ f x) {i : It α} (h : okItem ok i) : 1 ≤ cItem f i := by
  obtain ⟨t, b⟩ := i
  cases b with
  | inl c =>
    show 1 ≤ max 1 t * 1
    omega
  | inr x =>
    have h1 : 1 ≤ f x := hpos x h.2.2
    exact Nat.mul_pos (by show 0 < max 1 t; omega) h1
theorem cItems_pos (hpos : ∀ x, ok x → 1 ≤ f x) {l : List (It α)} (hl : l ≠ []) (h : ∀ i ∈ l, okItem ok i) : 1 ≤ cItems f l := by
  cases l with
  | nil => exact absurd rfl hl
  | cons i r =>
    have := cItem_pos hpos (h i (List.mem_cons_self ..))
    unfold cItems
    rw [List.map_cons, List.sum_cons]
    omega
theorem rows_eq : ∀ (l : List (It α)), cItems f l ≤ 24 → rowsOf f g l = (List.range (cItems f l)).map (sItems f g l)
  | [], _ => rfl
  | i :: l, h => by
    have ec : cItems f (i :: l) = cItem f i + cItems f l := by unfold cItems; rw [List.map_cons, List.sum_cons]
    have er : rowsOf f g (i :: l) = rowOf (cItem f i) (sItem g i) ++ rowsOf f g l := by unfold rowsOf; rw [List.map_cons, List.flatten_cons]
    rw [ec] at h
    rw [ec, er, rows_eq l (by omega), List.range_add, List.map_append, List.map_map]
    congr 1
    · unfold rowOf
      rw [if_pos (by omega)]
      apply List.map_congr_left
      intro s hs
      have hs' := List.mem_range.mp hs
      show _ = if s < cItem f i then _ else _
      rw [if_pos hs']
    · apply List.map_congr_left
      intro s _
      show _ = if cItem f i + s < cItem f i then _ else _
      rw [if_neg (by omega), show cItem f i + s - cItem f i = s by omega]
theorem sItems_end : ∀ (l : List (It α)) (s : Nat), cItems f l ≤ s → sItems f g l s = 46
  | [], s, _ => rfl
  | i :: l, s, h => by
    have ec : cItems f (i :: l) = cItem f i + cItems f l := by unfold cItems; rw [List.map_cons, List.sum_cons]
    rw [ec] at h
    show (if s < cItem f i then _ else _) = _
    rw [if_neg (by omega)]
    exact sItems_end l _ (by omega)
theorem len_items : ∀ l : List (It α), l.length ≤ ((l.map (wItem w)).flatten).length
  | [] => Nat.le_refl _
  | i :: l => by
    rw [List.map_cons, List.flatten_cons, List.length_append, List.length_cons]
    have h1 := len_items l
    have h2 : 1 ≤ (wItem w i).length := by
      obtain ⟨t, b⟩ := i
      unfold wItem
      rw [List.length_append]
      cases b with
      | inl c => show 1 ≤ _ + 1; omega
      | inr x => show 1 ≤ _ + ((w x ++ [41]).length + 1); omega
    omega
def behind (b : Nat) (r : List Nat) : List Nat → Res
  | [] => .ok ([], b, r)
  | c :: s3 => if c = 64 then rdWhole s3 b r else .ok (c :: s3, b, r)
theorem part_of {item : List Nat → Res} {s s2 : List Nat} {b : Nat} {r : List Nat} (h : rdItems item s.length s 0 [] = .ok (s2, b, r)) (hb : b ≠ 0) : rdPart item s = behind b r s2 := by
  unfold rdPart
  rw [h]
  show (if b = 0 then _ else _) = _
  rw [if_neg hb]
  cases s2 <;> rfl
theorem kept_rows {l : List (It α)} : kept (0 + cItems f l) ([] ++ rowsOf f g l) = rowOf (cItems f l) (sItems f g l) := by
  rw [Nat.zero_add, List.nil_append]
  unfold kept rowOf
  by_cases z : cItems f l ≤ 24
  · rw [if_pos z, if_pos z, rows_eq l z]
  · rw [if_neg z, if_neg z]
theorem rd_part {item : List Nat → Res} (HI : ∀ i, okItem ok i → ∀ rest, item (wItem w i ++ rest) = .ok (rest, cItem f i, rowOf (cItem f i) (sItem g i))) (hpos : ∀ x, ok x → 1 ≤ f x)
    (p : Pt α) (hp : okPart ok f p) (rest : List Nat) (hr : ∀ c ∈ rest.head?, c = 38 ∨ c = 41) : rdPart item (wPart w p ++ rest) = .ok (rest, cPart f p, rowOf (cPart f p) (sItems f g p.1)) := by
  obtain ⟨l, fill⟩ := p
  obtain ⟨hl, ho, hf⟩ := hp
  have hl' : l ≠ [] := hl
  have ho' : ∀ i ∈ l, okItem ok i := ho
  have p1 := cItems_pos hpos hl' ho'
  have hn := len_items (w := w) l
  rcases hf with hf | hf
  · have hf' : fill = 0 := hf
    subst hf'
    have e : wPart w (l, 0) ++ rest = (l.map (wItem w)).flatten ++ rest := by
      show ((l.map (wItem w)).flatten ++ []) ++ rest = _
      rw [List.append_nil]
    have ec : cPart f (l, 0) = cItems f l := rfl
    have hg : goes rest = false := by
      cases rest with
      | nil => rfl
      | cons c r =>
        have := hr c (by simp)
        rcases this with z | z <;> subst z <;> rfl
    have h := rd_items (f := f) (g := g) HI l (((l.map (wItem w)).flatten ++ rest).length) 0 [] rest ho' hg (by rw [List.length_append]; omega) (fun z => absurd z (by decide))
    rw [kept_rows, Nat.zero_add] at h
    rw [e, ec, part_of h (by omega)]
    cases rest with
    | nil => rfl
    | cons c r =>
      have := hr c (by simp)
      show (if c = 64 then _ else _) = _
      rw [if_neg (by omega)]
  · have hf1 : cItems f l ≤ fill := hf.1
    have hf2 : fill ≤ 24 := hf.2
    have e : wPart w (l, fill) ++ rest = (l.map (wItem w)).flatten ++ (64 :: (digs fill ++ rest)) := by
      show ((l.map (wItem w)).flatten ++ (if 0 < fill then 64 :: digs fill else [])) ++ rest = _
      rw [if_pos (by omega), List.append_assoc]
      rfl
    have ec : cPart f (l, fill) = fill := by
      show (if 0 < fill then fill else _) = fill
      rw [if_pos (by omega)]
    have h := rd_items (f := f) (g := g) HI l (((l.map (wItem w)).flatten ++ (64 :: (digs fill ++ rest))).length) 0 [] (64 :: (digs fill ++ rest)) ho' rfl (by rw [List.length_append]; omega) (fun z => absurd z (by decide))
    rw [kept_rows, Nat.zero_add] at h
    rw [e, ec, part_of h (by omega)]
    show rdWhole (digs fill ++ rest) (cItems f l) (rowOf (cItems f l) (sItems f g l)) = _
    obtain ⟨h1, h2⟩ := digs_rs hf2 (b := rest) (fun c hc => by
      rcases hr c hc with z | z <;> subst z <;> rfl)
    obtain ⟨d, ds, hd, hd48⟩ := digs_hd ⟨fill, by omega⟩ (by show 0 < fill; omega)
    have hd' : digs fill = d :: ds := hd
    have hv : dval ((d :: ds).take 3) = fill := by rw [← hd']; exact digs_val ⟨fill, by omega⟩
    rw [hd'] at h1 h2
    unfold rdWhole
    rw [hd', h1]
    simp only [if_neg hd48]
    rw [hv, if_pos ⟨hf1, hf2⟩, h2]
    have er : rowOf (cItems f l) (sItems f g l) ++ List.replicate (fill - cItems f l) 46 = rowOf fill (sItems f g l) := by
      unfold rowOf
      rw [if_pos hf2, if_pos (by omega)]
      have e3 : fill = cItems f l + (fill - cItems f l) := by omega
      conv => rhs; rw [e3]
      rw [List.range_add, List.map_append, List.map_map]
      congr 1
      have e4 := rowOf_const (m := fill - cItems f l) (c := 46) (by omega)
      unfold rowOf at e4
      rw [if_pos (by omega)] at e4
      rw [← e4]
      apply List.map_congr_left
      intro s _
      show 46 = sItems f g l (cItems f l + s)
      rw [sItems_end l _ (by omega)]
    rw [er]
def tailW (w : α → List Nat) (qs : Tx α) : List Nat := (qs.map fun q => 38 :: wPart w q).flatten
theorem wText_eq : ∀ (p : Pt α) (qs : Tx α), wText w (p :: qs) = wPart w p ++ tailW w qs
  | p, [] => by
    show wPart w p = wPart w p ++ []
    rw [List.append_nil]
  | p, q :: r => by
    show wPart w p ++ 38 :: wText w (q :: r) = _
    rw [wText_eq q r]
    show _ = wPart w p ++ ((38 :: wPart w q) ++ tailW w r)
    rfl
theorem foldl_dvd : ∀ (ps : Tx α) (a : Nat), a ∣ ps.foldl (fun a p => Nat.lcm a (cPart f p)) a ∧ ∀ p ∈ ps, cPart f p ∣ ps.foldl (fun a p => Nat.lcm a (cPart f p)) a
  | [], a => ⟨Nat.dvd_refl a, fun p h => nomatch h⟩
  | q :: ps, a => by
    obtain ⟨h1, h2⟩ := foldl_dvd ps (Nat.lcm a (cPart f q))
    refine ⟨Nat.dvd_trans (Nat.dvd_lcm_left a _) h1, fun p hp => ?_⟩
    rcases List.mem_cons.mp hp with rfl | hp
    · exact Nat.dvd_trans (Nat.dvd_lcm_right a _) h1
    · exact h2 p hp
theorem cText_snoc (ps : Tx α) (q : Pt α) : cText f (ps ++ [q]) = Nat.lcm (cText f ps) (cPart f q) := by
  unfold cText
  rw [List.foldl_append]
  rfl
theorem sText_per : ∀ (ps : Tx α) (m : Nat), (∀ p ∈ ps, cPart f p ∣ m) → ∀ k, sText f g ps (k + m) = sText f g ps k
  | [], m, _, k => rfl
  | p :: ps, m, h, k => by
    obtain ⟨j, hj⟩ := h p (List.mem_cons_self ..)
    have e : (k + m) % cPart f p = k % cPart f p := by rw [hj, Nat.add_mul_mod_self_left]
    show (if sItems f g p.1 ((k + m) % cPart f p) ≠ 46 then _ else _) = _
    rw [e, sText_per ps m (fun q hq => h q (List.mem_cons_of_mem _ hq)) k]
    rfl
theorem text_per (ps : Tx α) (k : Nat) : sText f g ps (k + cText f ps) = sText f g ps k := sText_per ps _ (foldl_dvd ps 1).2 k
theorem sText_snoc : ∀ (ps : Tx α) (q : Pt α) (k : Nat), sText f g (ps ++ [q]) k = if sText f g ps k ≠ 46 then sText f g ps k else sItems f g q.1 (k % cPart f q)
  | [], q, k => by
    show (if sItems f g q.1 (k % cPart f q) ≠ 46 then sItems f g q.1 (k % cPart f q) else 46) = if (46 : Nat) ≠ 46 then 46 else _
    rw [if_neg (fun z : (46 : Nat) ≠ 46 => z rfl)]
    by_cases z : sItems f g q.1 (k % cPart f q) = 46
    · rw [if_neg (fun y => y z), z]
    · rw [if_pos z]
  | p :: ps, q, k => by
    show (if sItems f g p.1 (k % cPart f p) ≠ 46 then _ else sText f g (ps ++ [q]) k) = if (if sItems f g p.1 (k % cPart f p) ≠ 46 then sItems f g p.1 (k % cPart f p) else sText f g ps k) ≠ 46 then (if sItems f g p.1 (k % cPart f p) ≠ 46 then sItems f g p.1 (k % cPart f p) else sText f g ps k) else _
    by_cases z : sItems f g p.1 (k % cPart f p) = 46
    · have e1 : (if sItems f g p.1 (k % cPart f p) ≠ 46 then sItems f g p.1 (k % cPart f p) else sText f g ps k) = sText f g ps k := if_neg (fun y => y z)
      have e2 : (if sItems f g p.1 (k % cPart f p) ≠ 46 then sItems f g p.1 (k % cPart f p) else sText f g (ps ++ [q]) k) = sText f g (ps ++ [q]) k := if_neg (fun y => y z)
      rw [e1, e2]
      exact sText_snoc ps q k
    · rw [if_pos z, if_pos z, if_pos z]
theorem per_mod {m : Nat} {s : Nat → Nat} (hp : ∀ k, s (k + m) = s k) (k : Nat) : s (k % m) = s k := by
  have h : ∀ j k, s (k + m * j) = s k := by
    intro j
    induction j with
    | zero => intro k; rw [Nat.mul_zero, Nat.add_zero]
    | succ j ih => intro k; rw [Nat.mul_succ, ← Nat.add_assoc, hp, ih]
  conv => rhs; rw [← Nat.mod_add_div k m]
  rw [h]
theorem rowOf_get {m : Nat} {s : Nat → Nat} (hm : m ≤ 24) {i : Nat} (hi : i < m) : ((rowOf m s)[i]?).getD 0 = s i := by
  unfold rowOf
  rw [if_pos hm, List.getElem?_map, List.getElem?_range hi]
  rfl
theorem tog_eq {b b2 : Nat} {s1 s2 : Nat → Nat} (p1 : 1 ≤ b) (p2 : 1 ≤ b2) (hp : ∀ k, s1 (k + b) = s1 k) : tog b (rowOf b s1) b2 (rowOf b2 s2) = rowOf (Nat.lcm b b2) (fun k => if s1 k ≠ 46 then s1 k else s2 (k % b2)) := by
  obtain ⟨l1, l2, _, _⟩ := lcm_le p1 p2
  unfold tog
  by_cases z : Nat.lcm b b2 ≤ 24
  · rw [if_pos z]
    conv => rhs; unfold rowOf
    rw [if_pos z]
    apply List.map_congr_left
    intro i _
    rw [rowOf_get (by omega) (Nat.mod_lt _ p1), rowOf_get (by omega) (Nat.mod_lt _ p2), per_mod hp]
    by_cases y : s1 i = 46
    · rw [if_pos y, if_neg (fun x => x y)]
    · rw [if_neg y, if_pos y]
  · rw [if_neg z]
    unfold rowOf
    rw [if_neg z]
theorem cPart_pos (hpos : ∀ x, ok x → 1 ≤ f x) {p : Pt α} (h : okPart ok f p) : 1 ≤ cPart f p := by
  unfold cPart
  split
  · assumption
  · exact cItems_pos hpos h.1 h.2.1
theorem cText_pos (hpos : ∀ x, ok x → 1 ≤ f x) (ps : Tx α) (h : ∀ p ∈ ps, okPart ok f p) : 1 ≤ cText f ps := by
  have : ∀ (ps : Tx α) (a : Nat), 1 ≤ a → (∀ p ∈ ps, okPart ok f p) → 1 ≤ ps.foldl (fun a p => Nat.lcm a (cPart f p)) a := by
    intro ps
    induction ps with
    | nil => intro a ha _; exact ha
    | cons p ps ih =>
      intro a ha h
      exact ih _ (Nat.lcm_pos ha (cPart_pos hpos (h p (List.mem_cons_self ..)))) (fun q hq => h q (List.mem_cons_of_mem _ hq))
  exact this ps 1 (Nat.le_refl 1) h
theorem jn_stop {part : List Nat → Res} {s : List Nat} (h : ∀ c ∈ s.head?, c ≠ 38) : ∀ (n b : Nat) (r : List Nat), rdJoin part n s b r = .ok (s, b, r)
  | 0, b, r => rfl
  | n + 1, b, r => by
    unfold rdJoin
    cases s with
    | nil => rfl
    | cons c s2 =>
      show (if c = 38 then _ else _) = _
      rw [if_neg (h c (by simp))]
theorem jn_go {part : List Nat → Res} {s2 s3 : List Nat} {n b b2 : Nat} {r r2 : List Nat} (h : part s2 = .ok (s3, b2, r2)) : rdJoin part (n + 1) (38 :: s2) b r = rdJoin part n s3 (Nat.lcm b b2) (tog b r b2 r2) := by
  have : ∀ c : Nat, c = 38 → rdJoin part (n + 1) (c :: s2) b r = rdJoin part n s3 (Nat.lcm b b2) (tog b r b2 r2) := by
    intro c hc
    show (if c = 38 then _ else _) = _
    rw [if_pos hc, h]
  exact this 38 rfl
theorem rd_join {part : List Nat → Res} (hpos : ∀ x, ok x → 1 ≤ f x) (HP : ∀ p, okPart ok f p → ∀ rest, (∀ c ∈ rest.head?, c = 38 ∨ c = 41) → part (wPart w p ++ rest) = .ok (rest, cPart f p, rowOf (cPart f p) (sItems f g p.1)))
    (rest : List Nat) (hr : ∀ c ∈ rest.head?, c = 41) : ∀ (qs ps : Tx α) (n : Nat), qs.length ≤ n → (∀ p ∈ ps, okPart ok f p) → (∀ q ∈ qs, okPart ok f q) →
      rdJoin part n (tailW w qs ++ rest) (cText f ps) (rowOf (cText f ps) (sText f g ps)) = .ok (rest, cText f (ps ++ qs), rowOf (cText f (ps ++ qs)) (sText f g (ps ++ qs)))
  | [], ps, n, _, hps, _ => by
    rw [List.append_nil]
    exact jn_stop (fun c hc => by have := hr c hc; omega) _ _ _
  | q :: qs, ps, n, hn, hps, hqs => by
    obtain ⟨k, rfl⟩ : ∃ k, n = k + 1 := ⟨n - 1, by rw [List.length_cons] at hn; omega⟩
    have oq := hqs q (List.mem_cons_self ..)
    have e : tailW w (q :: qs) ++ rest = 38 :: (wPart w q ++ (tailW w qs ++ rest)) := by
      show ((38 :: wPart w q) ++ tailW w qs) ++ rest = _
      rw [List.append_assoc]
      rfl
    have hh : ∀ c ∈ (tailW w qs ++ rest).head?, c = 38 ∨ c = 41 := by
      intro c hc
      cases qs with
      | nil => exact .inr (hr c hc)
      | cons q2 qs2 =>
        have : c = 38 := by
          have e2 : tailW w (q2 :: qs2) ++ rest = 38 :: (wPart w q2 ++ (tailW w qs2 ++ rest)) := by
            show ((38 :: wPart w q2) ++ tailW w qs2) ++ rest = _
            rw [List.append_assoc]
            rfl
          rw [e2] at hc
          simpa using hc.symm
        exact .inl this
    rw [e, jn_go (HP q oq _ hh), tog_eq (cText_pos hpos ps hps) (cPart_pos hpos oq) (text_per ps)]
    have e3 : (fun k => if sText f g ps k ≠ 46 then sText f g ps k else sItems f g q.1 (k % cPart f q)) = sText f g (ps ++ [q]) := by
      funext k
      rw [sText_snoc]
    rw [e3, ← cText_snoc]
    have ih := rd_join hpos HP rest hr qs (ps ++ [q]) k (by rw [List.length_cons] at hn; omega) (fun p hp => by
      rcases List.mem_append.mp hp with z | z
      · exact hps p z
      · have : p = q := by simpa using z
        rw [this]; exact oq) (fun p hp => hqs p (List.mem_cons_of_mem _ hp))
    rw [ih, List.append_assoc]
    rfl
theorem len_tail : ∀ qs : Tx α, qs.length ≤ (tailW w qs).length
  | [] => Nat.le_refl _
  | q :: qs => by
    have h1 := len_tail qs
    show qs.length + 1 ≤ ((38 :: wPart w q) ++ tailW w qs).length
    rw [List.length_append, List.length_cons]
    omega
theorem rd_text {part : List Nat → Res} (hpos : ∀ x, ok x → 1 ≤ f x) (HP : ∀ p, okPart ok f p → ∀ rest, (∀ c ∈ rest.head?, c = 38 ∨ c = 41) → part (wPart w p ++ rest) = .ok (rest, cPart f p, rowOf (cPart f p) (sItems f g p.1)))
    (hper : ∀ p, okPart ok f p → True) (ps : Tx α) (hps : okText ok f ps) (top : Bool) (rest : List Nat) (hr : ∀ c ∈ rest.head?, c = 41) (ht : rest.take 1 = endOf top) :
    rdParts part top (wText w ps ++ rest) = .ok (rest, cText f ps, rowOf (cText f ps) (sText f g ps)) := by
  obtain ⟨hne, ho⟩ := hps
  cases ps with
  | nil => exact absurd rfl hne
  | cons p qs =>
    have op := ho p (List.mem_cons_self ..)
    have hh : ∀ c ∈ (tailW w qs ++ rest).head?, c = 38 ∨ c = 41 := by
      intro c hc
      cases qs with
      | nil => exact .inr (hr c hc)
      | cons q2 qs2 =>
        have e2 : tailW w (q2 :: qs2) ++ rest = 38 :: (wPart w q2 ++ (tailW w qs2 ++ rest)) := by
          show ((38 :: wPart w q2) ++ tailW w qs2) ++ rest = _
          rw [List.append_assoc]
          rfl
        rw [e2] at hc
        exact .inl (by simpa using hc.symm)
    have h1 := HP p op _ hh
    have ec : cText f [p] = cPart f p := by
      show Nat.lcm 1 (cPart f p) = _
      rw [Nat.lcm_one_left]
    have p1 := cPart_pos hpos op
    have er : rowOf (cPart f p) (sItems f g p.1) = rowOf (cText f [p]) (sText f g [p]) := by
      rw [ec]
      unfold rowOf
      split
      · apply List.map_congr_left
        intro k hk
        have hk' := List.mem_range.mp hk
        show _ = if sItems f g p.1 (k % cPart f p) ≠ 46 then sItems f g p.1 (k % cPart f p) else 46
        rw [Nat.mod_eq_of_lt hk']
        by_cases z : sItems f g p.1 k = 46
        · rw [if_neg (fun y => y z), z]
        · rw [if_pos z]
      · rfl
    have h2 := rd_join (g := g) hpos HP rest hr qs [p] ((tailW w qs ++ rest).length) (by
      have := len_tail (w := w) qs
      rw [List.length_append]; omega) (fun q hq => by
        have : q = p := by simpa using hq
        rw [this]; exact op) (fun q hq => ho q (List.mem_cons_of_mem _ hq))
    rw [← er, ec] at h2
    rw [wText_eq, List.append_assoc]
    unfold rdParts
    rw [h1]
    show (match rdJoin part (tailW w qs ++ rest).length (tailW w qs ++ rest) (cPart f p) (rowOf (cPart f p) (sItems f g p.1)) with
      | .error e => Except.error e
      | .ok (s3, b3, r3) => if s3.take 1 = endOf top then .ok (s3, b3, r3) else .error s3.length) = _
    rw [h2]
    show (if rest.take 1 = endOf top then _ else _) = _
    rw [if_pos ht]
    rfl
end
theorem cT_pos : ∀ (n : Nat) (x : T n), okT n x → 1 ≤ cT n x
  | 0, x, _ => nomatch x
  | n + 1, x, h => by
    have h' : okText (okT n) (cT n) x := h
    exact cText_pos (ok := okT n) (f := cT n) (cT_pos n) x h'.2
theorem sT_per : ∀ (n : Nat) (x : T n) (k : Nat), sT n x (k + cT n x) = sT n x k
  | 0, x, _ => nomatch x
  | n + 1, x, k => text_per (f := cT n) (g := sT n) x k
/-- what is written is read -/
theorem read_T : ∀ (n : Nat) (x : T (n + 1)), okT (n + 1) x → ∀ (top : Bool) (rest : List Nat), (∀ c ∈ rest.head?, c = 41) → rest.take 1 = endOf top →
    rdAt n top (wT (n + 1) x ++ rest) = .ok (rest, cT (n + 1) x, rowOf (cT (n + 1) x) (sT (n + 1) x))
  | 0, x, h, top, rest, hr, ht => by
    have HI := rd_item (α := T 0) (w := wT 0) (f := cT 0) (g := sT 0) (ok := okT 0) (inner := none) (fun x => nomatch x) (fun x => nomatch x) (fun x => nomatch x)
    exact rd_text (α := T 0) (ok := okT 0) (f := cT 0) (g := sT 0) (w := wT 0) (fun x => nomatch x) (rd_part HI (fun x => nomatch x)) (fun _ _ => trivial) x h top rest hr ht
  | n + 1, x, h, top, rest, hr, ht => by
    have HI := rd_item (α := T (n + 1)) (w := wT (n + 1)) (f := cT (n + 1)) (g := sT (n + 1)) (ok := okT (n + 1)) (inner := some (rdAt n false)) (fun x hx => ⟨rdAt n false, rfl, fun rest => read_T n x hx false (41 :: rest) (fun c hc => by simpa using hc.symm) rfl⟩) (fun x hx => sT_per (n + 1) x) (cT_pos (n + 1))
    exact rd_text (α := T (n + 1)) (ok := okT (n + 1)) (f := cT (n + 1)) (g := sT (n + 1)) (w := wT (n + 1)) (cT_pos (n + 1)) (rd_part HI (cT_pos (n + 1))) (fun _ _ => trivial) x h top rest hr ht
/-- .. at most seven levels are read by read_round -/
def up : (n : Nat) → T n → T (n + 1)
  | 0, x => nomatch x
  | n + 1, x => (show Tx (T n) from x).map fun p => (p.1.map fun i => (i.1, match i.2 with
    | .inl c => .inl c
    | .inr y => .inr (up n y)), p.2)
end Rt

set_option Elab.async false
set_option linter.all false
set_option maxRecDepth 100000
set_option maxHeartbeats 4000000
namespace Rt
open Fg
/-! ### a text of one level is one of the next -/
section
variable {α β : Type} {h : α → β}
def mI (h : α → β) (i : It α) : It β := (i.1, match i.2 with
  | .inl c => .inl c
  | .inr y => .inr (h y))
def mP (h : α → β) (p : Pt α) : Pt β := (p.1.map (mI h), p.2)
def mX (h : α → β) (ps : Tx α) : Tx β := ps.map (mP h)
theorem mI_w {w : α → List Nat} {w' : β → List Nat} (e : ∀ x, w' (h x) = w x) (i : It α) : wItem w' (mI h i) = wItem w i := by
  obtain ⟨t, b⟩ := i
  cases b with
  | inl c => rfl
  | inr x =>
    show (if 0 < t then digs t else []) ++ (40 :: (w' (h x) ++ [41])) = _
    rw [e]
    rfl
theorem mP_w {w : α → List Nat} {w' : β → List Nat} (e : ∀ x, w' (h x) = w x) (p : Pt α) : wPart w' (mP h p) = wPart w p := by
  unfold wPart mP
  rw [List.map_map, show (wItem w' ∘ mI h) = wItem w from funext (mI_w e)]
theorem mX_w {w : α → List Nat} {w' : β → List Nat} (e : ∀ x, w' (h x) = w x) : ∀ ps : Tx α, wText w' (mX h ps) = wText w ps
  | [] => rfl
  | [p] => mP_w e p
  | p :: q :: r => by
    show wPart w' (mP h p) ++ 38 :: wText w' (mX h (q :: r)) = _
    rw [mP_w e, mX_w e (q :: r)]
    rfl
theorem mI_c {f : α → Nat} {f' : β → Nat} (e : ∀ x, f' (h x) = f x) (i : It α) : cItem f' (mI h i) = cItem f i := by
  obtain ⟨t, b⟩ := i
  cases b with
  | inl c => rfl
  | inr x =>
    show max 1 t * f' (h x) = max 1 t * f x
    rw [e]
theorem mI_cs {f : α → Nat} {f' : β → Nat} (e : ∀ x, f' (h x) = f x) (l : List (It α)) : cItems f' (l.map (mI h)) = cItems f l := by
  unfold cItems
  rw [List.map_map, show (cItem f' ∘ mI h) = cItem f from funext (mI_c e)]
theorem mP_c {f : α → Nat} {f' : β → Nat} (e : ∀ x, f' (h x) = f x) (p : Pt α) : cPart f' (mP h p) = cPart f p := by
  unfold cPart mP
  rw [mI_cs e]
theorem mX_c {f : α → Nat} {f' : β → Nat} (e : ∀ x, f' (h x) = f x) (ps : Tx α) : cText f' (mX h ps) = cText f ps := by
  unfold cText mX
  rw [List.foldl_map]
  congr 1
  funext a p
  rw [mP_c e]
theorem mI_ss {f : α → Nat} {f' : β → Nat} {g : α → Nat → Nat} {g' : β → Nat → Nat} (e : ∀ x, f' (h x) = f x) (eg : ∀ x, g' (h x) = g x) : ∀ (l : List (It α)) (s : Nat), sItems f' g' (l.map (mI h)) s = sItems f g l s
  | [], s => rfl
  | i :: l, s => by
    show (if s < cItem f' (mI h i) then sItem g' (mI h i) s else sItems f' g' (l.map (mI h)) (s - cItem f' (mI h i))) = if s < cItem f i then sItem g i s else sItems f g l (s - cItem f i)
    rw [mI_c e, mI_ss e eg l]
    have : sItem g' (mI h i) s = sItem g i s := by
      obtain ⟨t, b⟩ := i
      cases b with
      | inl c => rfl
      | inr x =>
        show g' (h x) s = g x s
        rw [eg]
    rw [this]
theorem mX_s {f : α → Nat} {f' : β → Nat} {g : α → Nat → Nat} {g' : β → Nat → Nat} (e : ∀ x, f' (h x) = f x) (eg : ∀ x, g' (h x) = g x) : ∀ (ps : Tx α) (s : Nat), sText f' g' (mX h ps) s = sText f g ps s
  | [], s => rfl
  | p :: ps, s => by
    show (if sItems f' g' (p.1.map (mI h)) (s % cPart f' (mP h p)) ≠ 46 then sItems f' g' (p.1.map (mI h)) (s % cPart f' (mP h p)) else sText f' g' (mX h ps) s) = if sItems f g p.1 (s % cPart f p) ≠ 46 then sItems f g p.1 (s % cPart f p) else sText f g ps s
    rw [mP_c e, mI_ss e eg, mX_s e eg ps]
theorem mI_ok {ok : α → Prop} {ok' : β → Prop} (eo : ∀ x, ok x → ok' (h x)) {i : It α} (hi : okItem ok i) : okItem ok' (mI h i) := by
  obtain ⟨t, b⟩ := i
  cases b with
  | inl c => exact hi
  | inr x => exact ⟨hi.1, hi.2.1, eo x hi.2.2⟩
theorem mP_ok {ok : α → Prop} {ok' : β → Prop} {f : α → Nat} {f' : β → Nat} (eo : ∀ x, ok x → ok' (h x)) (e : ∀ x, f' (h x) = f x) {p : Pt α} (hp : okPart ok f p) : okPart ok' f' (mP h p) := by
  obtain ⟨h1, h2, h3⟩ := hp
  refine ⟨fun z => h1 (List.map_eq_nil_iff.mp z), fun i hi => ?_, ?_⟩
  · obtain ⟨j, hj, rfl⟩ := List.mem_map.mp hi
    exact mI_ok eo (h2 j hj)
  · show p.2 = 0 ∨ cItems f' (p.1.map (mI h)) ≤ p.2 ∧ p.2 ≤ 24
    rw [mI_cs e]
    exact h3
theorem mX_ok {ok : α → Prop} {ok' : β → Prop} {f : α → Nat} {f' : β → Nat} (eo : ∀ x, ok x → ok' (h x)) (e : ∀ x, f' (h x) = f x) {ps : Tx α} (hp : okText ok f ps) : okText ok' f' (mX h ps) := by
  refine ⟨fun z => hp.1 (List.map_eq_nil_iff.mp z), fun p hp2 => ?_⟩
  obtain ⟨q, hq, rfl⟩ := List.mem_map.mp hp2
  exact mP_ok eo e (hp.2 q hq)
end
def lift : (n : Nat) → T n → T (n + 1)
  | 0, x => nomatch x
  | n + 1, x => mX (lift n) x
theorem lift_w : ∀ (n : Nat) (x : T n), wT (n + 1) (lift n x) = wT n x
  | 0, x => nomatch x
  | n + 1, x => mX_w (h := lift n) (lift_w n) x
theorem lift_c : ∀ (n : Nat) (x : T n), cT (n + 1) (lift n x) = cT n x
  | 0, x => nomatch x
  | n + 1, x => mX_c (h := lift n) (lift_c n) x
theorem lift_s : ∀ (n : Nat) (x : T n), sT (n + 1) (lift n x) = sT n x
  | 0, x => nomatch x
  | n + 1, x => funext fun s => mX_s (h := lift n) (f := cT n) (f' := cT (n + 1)) (lift_c n) (lift_s n) x s
theorem lift_ok : ∀ (n : Nat) (x : T n), okT n x → okT (n + 1) (lift n x)
  | 0, x, _ => nomatch x
  | n + 1, x, hx => mX_ok (h := lift n) (ok := okT n) (ok' := okT (n + 1)) (f := cT n) (f' := cT (n + 1)) (lift_ok n) (lift_c n) hx
/-- a text of at most seven levels as one of seven -/
theorem to7 : ∀ (k n : Nat), n + k = 7 → ∀ x : T n, okT n x → ∃ y : T 7, okT 7 y ∧ wT 7 y = wT n x ∧ cT 7 y = cT n x ∧ sT 7 y = sT n x
  | 0, n, e, x, hx => by
    have : n = 7 := by omega
    subst this
    exact ⟨x, hx, rfl, rfl, rfl⟩
  | k + 1, n, e, x, hx => by
    obtain ⟨y, h1, h2, h3, h4⟩ := to7 k (n + 1) (by omega) (lift n x) (lift_ok n x hx)
    exact ⟨y, h1, by rw [h2, lift_w], by rw [h3, lift_c], by rw [h4, lift_s]⟩
/-- read_round's reader at what is written -/
theorem round_reads {n : Nat} (hn : n ≤ 7) (x : T n) (hx : okT n x) : rdAt 6 true (wT n x) = .ok ([], cT n x, rowOf (cT n x) (sT n x)) := by
  obtain ⟨y, h1, h2, h3, h4⟩ := to7 (7 - n) n (by omega) x hx
  have h := read_T 6 y h1 true [] (fun c hc => nomatch hc) rfl
  rw [List.append_nil] at h
  rw [← h2, h, h3, h4]
theorem cT_big {n : Nat} (hn : n ≤ 7) (x : T n) (hx : okT n x) (hl : (wT n x).length ≤ 1400) : cT n x < 2 ^ 8500 := by
  obtain ⟨F, _⟩ := ok_at 6 true _ _ (round_reads hn x hx)
  obtain ⟨k, k1, k2, k3, k4⟩ := F.suf
  have k4' : cT n x ≤ 2 ^ (6 * k) := k4
  exact Nat.lt_of_le_of_lt k4' (Nat.pow_lt_pow_right (by decide) (by omega))
end Rt

set_option Elab.async false
namespace Fk
open PySem
def topS (i : Nat) : Stmt := PySem.Challenge.pw_falseglim_k06_whole_shortest_text.main.body.getD i (.Pass ⟨0, 0, 0, 0⟩)
end Fk

set_option Elab.async false
set_option linter.all false
set_option maxRecDepth 100000
set_option maxHeartbeats 4000000
namespace Fk
open PySem PySem.Spec PyProof.Rows L2 Fg Rt
local macro_rules | `(tactic| walk_at "rd1") => `(tactic| first
  | with_reducible refine r_seq ?_
  | with_reducible refine r_asg ?_
  | with_reducible refine r_gname ?_
  | with_reducible refine r_gsub ?_
  | with_reducible refine r_ret ?_
  | with_reducible refine r_retN ?_
  | with_reducible refine r_next ?_
  | with_reducible refine r_drop ?_
  | with_reducible refine r_ifS ?_
  | with_reducible refine r_if ?_
  | with_reducible refine r_par ?_
  | with_reducible refine r_pair ?_
  | with_reducible refine r_test ?_
  | with_reducible refine r_tB ?_
  | with_reducible refine r_not ?_
  | with_reducible refine r_and ?_
  | with_reducible refine r_or ?_
  | with_reducible refine r_andV ?_
  | with_reducible refine r_orV ?_
  | with_reducible refine r_notV ?_
  | with_reducible refine r_nil ?_
  | with_reducible refine r_cons ?_
  | with_reducible refine r_call ?_
  | with_reducible refine r_callS ?_
  | with_reducible refine r_cb ?_
  | with_reducible refine r_then ?_
  | with_reducible refine r_tup ?_
  | with_reducible refine r_lst ?_
  | with_reducible refine r_sl ?_
  | with_reducible refine r_nopart ?_
  | with_reducible refine r_part ?_
  | with_reducible refine r_lcR1 ?_
  | with_reducible refine r_lcR2 ?_
  | with_reducible refine r_lcL ?_
  | with_reducible refine r_lcT ?_
  | with_reducible refine r_forR1 ?_
  | with_reducible refine r_forR2 ?_
  | with_reducible refine r_forL ?_
  | with_reducible refine r_forT ?_
  | with_reducible refine r_forE ?_
  | with_reducible refine r_strE ?_
  | ((with_reducible refine r_rng1 ?hc ?_); (case hc => omega))
  | ((with_reducible refine r_rng2 ?hc ?_); (case hc => omega))
  | ((with_reducible refine' r_refL ?hc ?_); (case hc => first | assumption | exact Evl.sq_of (by assumption)))
  | ((with_reducible refine' r_refT ?hc ?_); (case hc => first | assumption | exact Evl.st_of (by assumption)))
  | with_reducible refine r_op ?_
  | with_reducible refine r_un ?_
  | with_reducible refine r_chain ?_
  | ((with_reducible refine' r_var ?hv ?_); (case hv => exact rfl))
  | with_reducible refine r_cS ?_
  | with_reducible refine r_cs ?_
  | with_reducible refine r_c ?_
  | with_reducible refine r_yes ?_
  | with_reducible refine r_bm ?_
  | with_reducible refine r_bl ?_
  | with_reducible refine r_in ?_
  | with_reducible refine r_ty ?_
  | with_reducible refine r_I0 ?_
  | ((with_reducible refine r_I ?hc ?_); (case hc => first | assumption | (show (0 : Int) < _; decide) | exact Or.inr ⟨by decide, by decide⟩ | exact Or.inr ⟨by omega, by omega⟩ | exact Or.inl ⟨by decide, by decide⟩ | exact (show CDivW _ _ from ⟨by decide, by decide +kernel⟩) | exact (show CPowW _ _ from ⟨by decide, by decide +kernel⟩) | (show (0 : Int) < _; omega)))
  | with_reducible refine r_U ?_
  | with_reducible refine r_eqI ?_
  | with_reducible refine r_neI ?_
  | with_reducible refine r_eqS ?_
  | with_reducible refine r_neS ?_
  | with_reducible refine r_eqB ?_
  | with_reducible refine r_neB ?_
  | with_reducible refine r_niS ?_
  | with_reducible refine r_inSS ?_
  | ((with_reducible refine r_slSS ?hc ?_); (case hc => first | exact small (by omega) | exact small (by simp; omega)))
  | ((with_reducible refine r_lenS ?hc ?_); (case hc => first | exact small (by omega) | exact small (by simp; omega)))
  | ((with_reducible refine' r_lenL ?hc ?_); (case hc => first | assumption | exact Evl.sq_of (by assumption)))
  | ((with_reducible refine' r_lenT ?hc ?_); (case hc => first | assumption | exact Evl.st_of (by assumption)))
  | ((with_reducible refine' r_ixL ?h1 ?h2 ?h3 ?_); (case h1 => first | assumption | exact Evl.sq_of (by assumption) | exact Evl.sq_of upd_same); (case h2 => first | decide | omega); (case h3 => first | exact rfl | assumption))
  | ((with_reducible refine' r_ixT ?h1 ?h2 ?h3 ?_); (case h1 => first | assumption | exact Evl.st_of (by assumption)); (case h2 => first | decide | omega); (case h3 => first | exact rfl | assumption))
  | with_reducible refine r_T ?_
  | with_reducible refine r_notNn ?_
  | with_reducible refine r_notN_int ?_
  | with_reducible refine r_notN_str ?_
  | with_reducible refine r_notN_ref ?_
  | with_reducible refine r_isNn ?_
  | with_reducible refine r_isN_int ?_
  | with_reducible refine r_isN_str ?_
  | with_reducible refine r_isN_ref ?_
  | ((with_reducible refine' r_isi ?ht ?hk ?_); (case ht => first | exact .base (.int _) | exact .base (.bl _) | exact .base (.str _) | exact .base .non | exact .base (.lst (by assumption)) | exact .base (.tup (by assumption))); (case hk => first | exact kb_int_int | exact kb_int_bool | exact kb_int_str | exact kb_int_list | exact kb_int_tuple | exact kb_bool_int | exact kb_bool_bool | exact kb_bool_str | exact kb_bool_list | exact kb_bool_tuple | exact kb_str_int | exact kb_str_bool | exact kb_str_str | exact kb_str_list | exact kb_str_tuple | exact kb_NoneType_int | exact kb_NoneType_bool | exact kb_NoneType_str | exact kb_NoneType_list | exact kb_NoneType_tuple | exact kb_list_int | exact kb_list_bool | exact kb_list_str | exact kb_list_list | exact kb_list_tuple | exact kb_tuple_int | exact kb_tuple_bool | exact kb_tuple_str | exact kb_tuple_list | exact kb_tuple_tuple))
  | with_reducible refine r_F ?_
  | with_reducible refine r_nT ?_
  | with_reducible refine r_nF ?_
  | with_reducible refine r_mko ?_
  | with_reducible refine r_xf ?_
  | ((with_reducible refine' r_sum ?hc ?_); (case hc => first | assumption | exact Evl.sq_of (by assumption)))
  | ((with_reducible refine' r_setL ?h1 ?h2 ?h3 ?_); (case h1 => first | assumption | exact upd_same); (case h2 => first | decide | omega); (case h3 => first | (show _ < _; decide) | (simp; done)))
  | with_reducible refine r_int ?_
  | with_reducible refine r_abs ?_)
local macro_rules | `(tactic| walk_at "rd") => `(tactic| repeat (walk_at "rd1"))

section
variable {P : Program} {w : World} {K : PySem.W.Frag} {mg : Str → Option Value} {base : Heap}
abbrev SGL : List Nat := [46, 103, 114, 119]
abbrev DGL : List Nat := [48, 49, 50, 51, 52, 53, 54, 55, 56, 57]
theorem sgl (c : Nat) : decide (c ∈ SGL) = isSg c := by unfold SGL isSg; simp
theorem dgl (c : Nat) : decide (c ∈ DGL) = isDig c := by
  unfold DGL isDig
  apply decide_eq_decide.mpr
  simp only [List.mem_cons, List.not_mem_nil, or_false]
  omega
theorem cut_mid {l : List Nat} {i j : Int} (h : 0 ≤ i) (h2 : i ≤ j) : cutL l (some i) (some j) = (l.drop i.toNat).take (j.toNat - i.toNat) := by
  unfold cutL
  rw [sIx_pos h, sIx_pos (by omega)]
  by_cases hi : i.toNat ≤ l.length
  · rw [Nat.min_eq_left hi]
    by_cases hj : j.toNat ≤ l.length
    · rw [Nat.min_eq_left hj]
    · rw [Nat.min_eq_right (by omega), List.take_of_length_le (by rw [List.length_drop]; omega), List.take_of_length_le (by rw [List.length_drop]; omega)]
  · rw [List.drop_eq_nil_of_le (by omega : l.length ≤ min i.toNat l.length), List.drop_eq_nil_of_le (by omega : l.length ≤ i.toNat)]
    simp
theorem take1 {l : List Nat} {i : Nat} : (l.drop i).take 1 = match l[i]? with
  | none => []
  | some c => [c] := by
  rw [← List.head?_drop]
  cases l.drop i <;> rfl
def spIsSign : Sp := fun vs H Q _ => ∃ l : List Nat, vs = [.str (S l)] ∧ l.length ≤ 1 ∧ Q (.bl (match l with
  | [] => false
  | c :: _ => isSg c)) H
abbrev s_is_sign : Stmt := topS 10
abbrev N_is_sign : List Str := ["thing"]
theorem sc_is_sign : FnScope ["thing"] ["thing"] (defScope s_is_sign) := ⟨rfl, rfl, rfl, by decide +kernel, rfl, by decide +kernel, by decide +kernel⟩
theorem can_is_sign (T : Bi mg) (F : Defd K mg "is_sign" s_is_sign ["thing"]) (c_SIGNS : ∃ u, mg "SIGNS" = some u ∧ RelV (.str (S SGL)) u) : Can P w K mg base L2.CX0 1 "is_sign" ["thing"] spIsSign := by
  refine can0 F sc_is_sign (fun vs H Q E h => ?_) (fun f cdv A outer s H vs Q E hr h => ⟨_, (pss_one (ps_ret (pe_and (pe_callB call_isi (by rfl) T.b_isinstance boot_isinstance (pa_cons (pv 0) (pa_cons (pe_bltn (v := .ty "str") (by rfl) T.b_str boot_str rfl) pa_nil))) (pe_and (pe_cmpR op_eq (pe_callB call_lenS (by rfl) T.b_len boot_len (pa_cons (pv 0) pa_nil)) pe_int (nomark _)) (pe_one (pe_cmpR op_inSS (pv 0) (C8.pe_gc rfl c_SIGNS) (by rfl))))))), ?_⟩)
  · obtain ⟨_, rfl, _⟩ := h
    rfl
  · obtain ⟨l, rfl, hl, q⟩ := h
    walk_at "rd"
    match l, hl with
    | [], _ =>
      walk_at "rd"
      refine r_ite (fun z => absurd z (by decide)) (fun _ => ?_)
      exact q
    | [c], _ =>
      walk_at "rd"
      refine r_ite (fun _ => ?_) (fun z => absurd rfl z)
      walk_at "rd"
      rw [sgl c]
      exact q
    | _ :: _ :: _, hl => exact absurd hl (by simp)
def spKept : Sp := fun vs H Q _ => ∃ (b : Nat) (r : List Nat), vs = [.int (b : Int), .str (S r)] ∧ Q (.str (S (kept b r))) H
abbrev s_kept : Stmt := topS 23
abbrev N_kept : List Str := ["beats", "row"]
theorem sc_kept : FnScope ["beats", "row"] ["beats", "row"] (defScope s_kept) := ⟨rfl, rfl, rfl, by decide +kernel, rfl, by decide +kernel, by decide +kernel⟩
theorem can_kept (T : Bi mg) (F : Defd K mg "kept" s_kept ["beats", "row"]) (c_MOST_BEATS : ∃ u, mg "MOST_BEATS" = some u ∧ RelV (.int 24) u) : Can P w K mg base L2.CX0 1 "kept" ["beats", "row"] spKept := by
  refine can0 F sc_kept (fun vs H Q E h => ?_) (fun f cdv A outer s H vs Q E hr h => ⟨_, (pss_one (ps_ret (pe_ifExp (pt_cmpR op_le (pv 0) (C8.pe_gc rfl c_MOST_BEATS) (nomark _)) (pv 1) (pe_strL [] (by decide +kernel))))), ?_⟩)
  · obtain ⟨_, _, rfl, _⟩ := h
    rfl
  · obtain ⟨b, r, rfl, q⟩ := h
    walk_at "rd"
    refine r_ite (fun h => ?_) (fun h => ?_)
    · walk_at "rd"
      unfold kept at q
      rw [if_pos (by omega)] at q
      exact q
    · walk_at "rd"
      unfold kept at q
      rw [if_neg (by omega)] at q
      exact q
def spChar : Sp := fun vs H Q _ => ∃ (l : List Nat) (i : Nat), vs = [.str (S l), .int (i : Int)] ∧ l.length ≤ 100000 ∧ Q (.str (S ((l.drop i).take 1))) H
abbrev s_char_at : Stmt := topS 25
abbrev N_char_at : List Str := ["text", "at"]
theorem sc_char_at : FnScope ["text", "at"] ["text", "at"] (defScope s_char_at) := ⟨rfl, rfl, rfl, by decide +kernel, rfl, by decide +kernel, by decide +kernel⟩
theorem can_char_at (T : Bi mg) (F : Defd K mg "char_at" s_char_at ["text", "at"]) : Can P w K mg base L2.CX0 1 "char_at" ["text", "at"] spChar := by
  refine can0 F sc_char_at (fun vs H Q E h => ?_) (fun f cdv A outer s H vs Q E hr h => ⟨_, (pss_one (ps_ret (pe_slice sl_strS (pv 0) (po_some (pv 1)) (po_some (pe_op op_add (pv 1) pe_int))))), ?_⟩)
  · obtain ⟨_, _, rfl, _⟩ := h
    rfl
  · obtain ⟨l, i, rfl, hl, q⟩ := h
    walk_at "rd"
    rw [cut_mid (by omega) (by omega), show ((i : Int) + 1).toNat - (i : Int).toNat = 1 by omega, Int.toNat_natCast]
    exact q
def spEnd : Sp := fun vs H Q _ => ∃ (l : List Nat) (i : Nat), vs = [.str (S l), .int (i : Int)] ∧ l.length ≤ 100000 ∧ Q (.int ((i + (dsOf (l.drop i)).length : Nat) : Int)) H
theorem tw_get {p : Nat → Bool} : ∀ (s : List Nat) (k : Nat), k < (s.takeWhile p).length → ∃ c, s[k]? = some c ∧ p c = true
  | [], k, h => absurd h (by simp)
  | x :: r, k, h => by
    rw [List.takeWhile_cons] at h
    split at h
    · rename_i hx
      cases k with
      | zero => exact ⟨x, rfl, hx⟩
      | succ k => exact tw_get r k (by simpa using h)
    · exact absurd h (by simp)
theorem tw_end {p : Nat → Bool} : ∀ (s : List Nat) (c : Nat), s[(s.takeWhile p).length]? = some c → p c = false
  | [], c, h => by simp at h
  | x :: r, c, h => by
    rw [List.takeWhile_cons] at h
    split at h
    · exact tw_end r c (by simpa using h)
    · rename_i hx
      have e : x = c := by simpa using h
      subst e
      simpa using hx
abbrev s_end_of_run : Stmt := topS 26
abbrev N_end_of_run : List Str := ["text", "at", "end"]
theorem sc_end_of_run : FnScope ["text", "at", "end"] ["text", "at"] (defScope s_end_of_run) := ⟨rfl, rfl, rfl, by decide +kernel, rfl, by decide +kernel, by decide +kernel⟩
theorem can_end_of_run (T : Bi mg) (F : Defd K mg "end_of_run" s_end_of_run ["text", "at"]) (c_DIGITS : ∃ u, mg "DIGITS" = some u ∧ RelV (.str (S DGL)) u) : Can P w K mg base L2.CX0 1 "end_of_run" ["text", "at"] spEnd := by
  refine can0 F sc_end_of_run (fun vs H Q E h => ?_) (fun f cdv A outer s H vs Q E hr h => ⟨_, (pss_cons (ps_set (i := 2) sc_end_of_run.nd rfl (by first | exact Or.inl rfl | exact Or.inr rfl) (pv 1))
  (pss_cons (ps_while PassesOwn.never (PW.pt (pw_and (pt_cmpR op_lt (pv 2) (pe_callB call_lenS (by rfl) T.b_len boot_len (pa_cons (pv 0) pa_nil)) (nomark _)) (pw_and1 (pt_cmpR op_inSS (pe_ix ix_strS (pv 0) (pv 2) (fun _ _ => rfl)) (C8.pe_gc rfl c_DIGITS) (by rfl))))) (pss_one (ps_set (i := 2) sc_end_of_run.nd rfl (by first | exact Or.inl rfl | exact Or.inr rfl) (pe_op op_add (pv 2) pe_int))))
  (pss_one (ps_ret (pv 2))))), ?_⟩)
  · obtain ⟨_, _, rfl, _⟩ := h
    rfl
  · obtain ⟨l, i, rfl, hl, q⟩ := h
    have dl : (dsOf (l.drop i)).length + i ≤ l.length + i := by
      have := len_rs (l.drop i)
      rw [List.length_drop] at this
      omega
    have dl2 : i ≤ l.length → (dsOf (l.drop i)).length + i ≤ l.length := by
      have := len_rs (l.drop i)
      rw [List.length_drop] at this
      omega
    walk_at "rd"
    refine ⟨fun m σ' H' => ∃ k : Nat, σ' = [some (.str (S l)), some (.int (i : Int)), some (.int ((i + k : Nat) : Int))] ∧ H' = H ∧ m + k = (dsOf (l.drop i)).length, ⟨(dsOf (l.drop i)).length, 0, rfl, rfl, by omega⟩, fun m σ' H' hW => ?_⟩
    obtain ⟨k, rfl, rfl, hm⟩ := hW
    walk_at "rd"
    refine r_ite (fun h => ?_) (fun h => ?_)
    · have hik : i + k < l.length := by omega
      have g : l[((i + k : Nat) : Int).toNat]? = some l[i + k] := by rw [Int.toNat_natCast]; exact List.getElem?_eq_getElem hik
      walk_at "rd"
      refine r_ixSS (small (by omega)) (by omega) g ?_
      walk_at "rd"
      have g2 : (l.drop i)[k]? = some l[i + k] := by rw [List.getElem?_drop]; exact List.getElem?_eq_getElem hik
      refine r_ite (fun h2 => ?_) (fun h2 => ?_)
      · have hk : k < (dsOf (l.drop i)).length := by
          rcases Nat.lt_or_ge k (dsOf (l.drop i)).length with z | z
          · exact z
          · have e : k = (dsOf (l.drop i)).length := by omega
            have e2 := tw_end (p := isDig) (l.drop i) l[i + k] (by rw [← g2, e]; rfl)
            rw [← dgl] at e2
            exact absurd h2 (of_decide_eq_false e2)
        refine ⟨fun σ2 H2 => ∃ k2 : Nat, σ2 = [some (.str (S l)), some (.int (i : Int)), some (.int ((i + k2 : Nat) : Int))] ∧ H2 = H' ∧ (m - 1) + k2 = (dsOf (l.drop i)).length, fun σ2 H2 z => ⟨m - 1, by omega, z⟩, ?_⟩
        walk_at "rd"
        exact ⟨k + 1, by rw [show ((i + (k + 1) : Nat) : Int) = ((i + k : Nat) : Int) + 1 by omega]; rfl, rfl, by omega⟩
      · have hk : k = (dsOf (l.drop i)).length := by
          rcases Nat.lt_or_ge k (dsOf (l.drop i)).length with z | z
          · obtain ⟨c, c1, c2⟩ := tw_get (p := isDig) (l.drop i) k z
            rw [g2] at c1
            rw [← Option.some.inj c1, ← dgl] at c2
            exact absurd (of_decide_eq_true c2) h2
          · omega
        walk_at "rd"
        rw [hk]
        exact q
    · have hk : k = (dsOf (l.drop i)).length := by
        rcases Nat.lt_or_ge k (dsOf (l.drop i)).length with z | z
        · obtain ⟨c, c1, c2⟩ := tw_get (p := isDig) (l.drop i) k z
          have := (List.getElem?_eq_some_iff.mp c1).1
          rw [List.length_drop] at this
          omega
        · omega
      walk_at "rd"
      rw [hk]
      exact q
end
end Fk

set_option Elab.async false
set_option linter.all false
set_option maxRecDepth 100000
set_option maxHeartbeats 4000000
namespace Fk
open PySem PySem.Spec PyProof.Rows L2 Fg Rt
local macro_rules | `(tactic| walk_at "rd1") => `(tactic| first
  | with_reducible refine r_seq ?_
  | with_reducible refine r_asg ?_
  | with_reducible refine r_gname ?_
  | with_reducible refine r_gsub ?_
  | with_reducible refine r_ret ?_
  | with_reducible refine r_retN ?_
  | with_reducible refine r_next ?_
  | with_reducible refine r_drop ?_
  | with_reducible refine r_ifS ?_
  | with_reducible refine r_if ?_
  | with_reducible refine r_par ?_
  | with_reducible refine r_pair ?_
  | with_reducible refine r_test ?_
  | with_reducible refine r_tB ?_
  | with_reducible refine r_not ?_
  | with_reducible refine r_and ?_
  | with_reducible refine r_or ?_
  | with_reducible refine r_andV ?_
  | with_reducible refine r_orV ?_
  | with_reducible refine r_notV ?_
  | with_reducible refine r_nil ?_
  | with_reducible refine r_cons ?_
  | with_reducible refine r_call ?_
  | with_reducible refine r_callS ?_
  | with_reducible refine r_cb ?_
  | with_reducible refine r_then ?_
  | with_reducible refine r_tup ?_
  | with_reducible refine r_lst ?_
  | with_reducible refine r_sl ?_
  | with_reducible refine r_nopart ?_
  | with_reducible refine r_part ?_
  | with_reducible refine r_lcR1 ?_
  | with_reducible refine r_lcR2 ?_
  | with_reducible refine r_lcL ?_
  | with_reducible refine r_lcT ?_
  | with_reducible refine r_forR1 ?_
  | with_reducible refine r_forR2 ?_
  | with_reducible refine r_forL ?_
  | with_reducible refine r_forT ?_
  | with_reducible refine r_forE ?_
  | with_reducible refine r_strE ?_
  | ((with_reducible refine r_rng1 ?hc ?_); (case hc => omega))
  | ((with_reducible refine r_rng2 ?hc ?_); (case hc => omega))
  | ((with_reducible refine' r_refL ?hc ?_); (case hc => first | assumption | exact Evl.sq_of (by assumption)))
  | ((with_reducible refine' r_refT ?hc ?_); (case hc => first | assumption | exact Evl.st_of (by assumption)))
  | with_reducible refine r_op ?_
  | with_reducible refine r_un ?_
  | with_reducible refine r_chain ?_
  | ((with_reducible refine' r_var ?hv ?_); (case hv => exact rfl))
  | with_reducible refine r_cS ?_
  | with_reducible refine r_cs ?_
  | with_reducible refine r_c ?_
  | with_reducible refine r_yes ?_
  | with_reducible refine r_bm ?_
  | with_reducible refine r_bl ?_
  | with_reducible refine r_in ?_
  | with_reducible refine r_ty ?_
  | with_reducible refine r_I0 ?_
  | ((with_reducible refine r_I ?hc ?_); (case hc => first | assumption | (show (0 : Int) < _; decide) | exact Or.inr ⟨by decide, by decide⟩ | exact Or.inr ⟨by omega, by omega⟩ | exact Or.inl ⟨by decide, by decide⟩ | exact (show CDivW _ _ from ⟨by decide, by decide +kernel⟩) | exact (show CPowW _ _ from ⟨by decide, by decide +kernel⟩) | (show (0 : Int) < _; omega)))
  | with_reducible refine r_U ?_
  | with_reducible refine r_eqI ?_
  | with_reducible refine r_neI ?_
  | with_reducible refine r_eqS ?_
  | with_reducible refine r_neS ?_
  | with_reducible refine r_eqB ?_
  | with_reducible refine r_neB ?_
  | with_reducible refine r_niS ?_
  | with_reducible refine r_inSS ?_
  | ((with_reducible refine r_slSS ?hc ?_); (case hc => first | exact small (by omega) | exact small (by simp; omega)))
  | ((with_reducible refine r_lenS ?hc ?_); (case hc => first | exact small (by omega) | exact small (by simp; omega)))
  | ((with_reducible refine' r_lenL ?hc ?_); (case hc => first | assumption | exact Evl.sq_of (by assumption)))
  | ((with_reducible refine' r_lenT ?hc ?_); (case hc => first | assumption | exact Evl.st_of (by assumption)))
  | ((with_reducible refine' r_ixL ?h1 ?h2 ?h3 ?_); (case h1 => first | assumption | exact Evl.sq_of (by assumption) | exact Evl.sq_of upd_same); (case h2 => first | decide | omega); (case h3 => first | exact rfl | assumption))
  | ((with_reducible refine' r_ixT ?h1 ?h2 ?h3 ?_); (case h1 => first | assumption | exact Evl.st_of (by assumption)); (case h2 => first | decide | omega); (case h3 => first | exact rfl | assumption))
  | with_reducible refine r_T ?_
  | with_reducible refine r_notNn ?_
  | with_reducible refine r_notN_int ?_
  | with_reducible refine r_notN_str ?_
  | with_reducible refine r_notN_ref ?_
  | with_reducible refine r_isNn ?_
  | with_reducible refine r_isN_int ?_
  | with_reducible refine r_isN_str ?_
  | with_reducible refine r_isN_ref ?_
  | ((with_reducible refine' r_isi ?ht ?hk ?_); (case ht => first | exact .base (.int _) | exact .base (.bl _) | exact .base (.str _) | exact .base .non | exact .base (.lst (by assumption)) | exact .base (.tup (by assumption))); (case hk => first | exact kb_int_int | exact kb_int_bool | exact kb_int_str | exact kb_int_list | exact kb_int_tuple | exact kb_bool_int | exact kb_bool_bool | exact kb_bool_str | exact kb_bool_list | exact kb_bool_tuple | exact kb_str_int | exact kb_str_bool | exact kb_str_str | exact kb_str_list | exact kb_str_tuple | exact kb_NoneType_int | exact kb_NoneType_bool | exact kb_NoneType_str | exact kb_NoneType_list | exact kb_NoneType_tuple | exact kb_list_int | exact kb_list_bool | exact kb_list_str | exact kb_list_list | exact kb_list_tuple | exact kb_tuple_int | exact kb_tuple_bool | exact kb_tuple_str | exact kb_tuple_list | exact kb_tuple_tuple))
  | with_reducible refine r_F ?_
  | with_reducible refine r_nT ?_
  | with_reducible refine r_nF ?_
  | with_reducible refine r_mko ?_
  | with_reducible refine r_xf ?_
  | ((with_reducible refine' r_sum ?hc ?_); (case hc => first | assumption | exact Evl.sq_of (by assumption)))
  | ((with_reducible refine' r_setL ?h1 ?h2 ?h3 ?_); (case h1 => first | assumption | exact upd_same); (case h2 => first | decide | omega); (case h3 => first | (show _ < _; decide) | (simp; done)))
  | with_reducible refine r_int ?_
  | with_reducible refine r_abs ?_)
local macro_rules | `(tactic| walk_at "rd") => `(tactic| repeat (walk_at "rd1"))

section
variable {P : Program} {w : World} {K : PySem.W.Frag} {mg : Str → Option Value} {base : Heap}
structure RowOk (b : Nat) (r : List Nat) : Prop where
  pos : 1 ≤ b
  lt : b < 2 ^ 13000
  row : b ≤ 24 → r.length = b ∧ ∀ c ∈ r, isSg c = true
  non : 24 < b → r = []
def togF (b : Nat) (r : List Nat) (b2 : Nat) (r2 : List Nat) (i : Nat) : Nat := if (r[i % b]?).getD 0 = 46 then (r2[i % b2]?).getD 0 else (r[i % b]?).getD 0
theorem getD_some {r : List Nat} {i : Nat} (h : i < r.length) : r[i]? = some ((r[i]?).getD 0) := by
  rw [List.getElem?_eq_getElem h]; rfl
def spTogether : Sp := fun vs H Q _ => ∃ (b : Nat) (r : List Nat) (b2 : Nat) (r2 : List Nat), vs = [.int (b : Int), .str (S r), .int (b2 : Int), .str (S r2)] ∧ RowOk b r ∧ RowOk b2 r2 ∧ ∀ p H', Ex H H' → H' p = some (.tup [.int ((Nat.lcm b b2 : Nat) : Int), .str (S (tog b r b2 r2))]) → Q (.ref p) H'
abbrev s_together : Stmt := topS 24
abbrev N_together : List Str := ["beats", "row", "other_beats", "other", "both", "signs", "beat", "sign"]
theorem sc_together : FnScope ["beats", "row", "other_beats", "other", "both", "signs", "beat", "sign"] ["beats", "row", "other_beats", "other"] (defScope s_together) := ⟨rfl, rfl, rfl, by decide +kernel, rfl, by decide +kernel, by decide +kernel⟩
theorem can_together (T : Bi mg) (F : Defd K mg "together" s_together ["beats", "row", "other_beats", "other"]) (c_MOST_BEATS : ∃ u, mg "MOST_BEATS" = some u ∧ RelV (.int 24) u) (c_DARK : ∃ u, mg "DARK" = some u ∧ RelV (.str (S [46])) u) (g_lcm : mg "lcm" = some (.builtin "math.lcm")) : Can P w K mg base L2.CX0 1 "together" ["beats", "row", "other_beats", "other"] spTogether := by
  refine can0 F sc_together (fun vs H Q E h => ?_) (fun f cdv A outer s H vs Q E hr h => ⟨_, (pss_cons (ps_set (i := 4) sc_together.nd rfl (by first | exact Or.inl rfl | exact Or.inr rfl) (pe_callBfun cr_lcm (by rfl) g_lcm (pa_cons (pv 0) (pa_cons (pv 2) pa_nil))))
  (pss_cons (ps_if (pt_cmpR op_gt (pv 4) (C8.pe_gc rfl c_MOST_BEATS) (nomark _)) (pss_one (ps_ret (pe_tup (pa_cons (pv 4) (pa_cons (pe_strL [] (by decide +kernel)) pa_nil))))) pss_nil)
  (pss_cons (ps_set (i := 5) sc_together.nd rfl (by first | exact Or.inl rfl | exact Or.inr rfl) (pe_lst pa_nil))
  (pss_cons (ps_for PassesOwn.never rfl (pi_range1 rfl T.b_range (pa_cons (pv 4) pa_nil)) (pg_name (i := 6) sc_together.nd rfl (by first | exact Or.inl rfl | exact Or.inr rfl))
    (pss_cons (ps_set (i := 7) sc_together.nd rfl (by first | exact Or.inl rfl | exact Or.inr rfl) (pe_ix ix_strS (pv 1) (pe_op op_mod (pv 6) (pv 0)) (fun _ _ => rfl)))
  (pss_one (ps_expr (pe_bm PySem.F.plainAttrs_list PySem.F.slot_list_append PySem.F.type_list_append mt_append (pv 5) (pa_cons (pe_ifExp (pt_cmpR op_eq (pv 7) (C8.pe_gc rfl c_DARK) (nomark _)) (pe_ix ix_strS (pv 3) (pe_op op_mod (pv 6) (pv 2)) (fun _ _ => rfl)) (pv 7)) pa_nil))))))
  (pss_one (ps_ret (pe_tup (pa_cons (pv 4) (pa_cons (pe_bm PySem.F.plainAttrs_str PySem.F.slot_str_join PySem.F.type_str_join mt_joinS (pe_strL [] (by decide +kernel)) (pa_cons (pv 5) pa_nil)) pa_nil))))))))), ?_⟩)
  · obtain ⟨_, _, _, _, rfl, _⟩ := h
    rfl
  · obtain ⟨b, r, b2, r2, rfl, h1, h2, q⟩ := h
    walk_at "rd"
    refine ⟨b, b2, rfl, h1.lt, h2.lt, ?_⟩
    walk_at "rd"
    refine r_ite (fun h => ?_) (fun h => ?_)
    · walk_at "rd"
      refine ⟨small (by show 2 ≤ 1000000; decide), fun p hp => ?_⟩
      refine q p _ (Evl.Ex.new hp) ?_
      rw [upd_same]
      have e : tog b r b2 r2 = [] := by
        unfold tog
        rw [if_neg (by omega)]
      rw [e]
    · have h24 : Nat.lcm b b2 ≤ 24 := by omega
      obtain ⟨l1, l2, l3, _⟩ := lcm_le h1.pos h2.pos
      obtain ⟨e1, e2⟩ := h1.row (by omega)
      obtain ⟨e3, e4⟩ := h2.row (by omega)
      have p1 := h1.pos
      have p2 := h2.pos
      have et : tog b r b2 r2 = (List.range (Nat.lcm b b2)).map (togF b r b2 r2) := by
        unfold tog
        rw [if_pos h24]
        rfl
      generalize hm : Nat.lcm b b2 = m at *
      walk_at "rd"
      refine ⟨small (by show 0 ≤ 1000000; decide), fun D hD => ?_⟩
      walk_at "rd"
      let J : Nat → L2.St → Hp → Prop := fun i σ' H' => ∃ o o2, σ' = [some (.int (b : Int)), some (.str (S r)), some (.int (b2 : Int)), some (.str (S r2)), some (.int (m : Int)), some (.ref D), o, o2] ∧ H' = upd H D (.lst (((List.range i).map (togF b r b2 r2)).map fun c => .str (S [c])))
      refine forR J ⟨_, _, rfl, rfl⟩ (fun i σ' H' hi hJ => ?_) (fun σ' H' hJ => ?_)
      · obtain ⟨o, o2, rfl, rfl⟩ := hJ
        have g1 : r[(((0 : Int) + (i : Int)) % (b : Int)).toNat]? = some ((r[i % b]?).getD 0) := by
          rw [show ((0 : Int) + (i : Int)) % (b : Int) = ((i % b : Nat) : Int) by rw [Int.zero_add, Int.natCast_emod], Int.toNat_natCast]
          exact getD_some (by rw [e1]; exact Nat.mod_lt _ p1)
        have g2 : r2[(((0 : Int) + (i : Int)) % (b2 : Int)).toNat]? = some ((r2[i % b2]?).getD 0) := by
          rw [show ((0 : Int) + (i : Int)) % (b2 : Int) = ((i % b2 : Nat) : Int) by rw [Int.zero_add, Int.natCast_emod], Int.toNat_natCast]
          exact getD_some (by rw [e3]; exact Nat.mod_lt _ p2)
        walk_at "rd"
        refine r_ixSS (small (by omega)) (Int.emod_nonneg _ (by omega)) g1 ?_
        walk_at "rd"
        refine ⟨.inl ⟨rfl, _, Evl.sq_of upd_same⟩, ?_⟩
        walk_at "rd"
        have fin : ∀ x, x = togF b r b2 r2 i → rAppend (.ref D) [.str (S [x])] (upd H D (.lst (((List.range i).map (togF b r b2 r2)).map fun c => .str (S [c])))) fun _ H1 => J (i + 1) [some (.int (b : Int)), some (.str (S r)), some (.int (b2 : Int)), some (.str (S r2)), some (.int (m : Int)), some (.ref D), some (.int ((0 : Int) + (i : Int))), some (.str (S [(r[i % b]?).getD 0]))] H1 := by
          intro x hx
          refine ⟨D, _, _, rfl, rfl, upd_same, ?_, _, _, rfl, ?_⟩
          · rw [List.length_map, List.length_map, List.length_range, sizeLine_eq]
            omega
          · rw [upd_upd, List.range_succ, List.map_append, List.map_append, hx]
            rfl
        refine r_ite (fun z => ?_) (fun z => ?_)
        · walk_at "rd"
          refine r_ixSS (small (by omega)) (Int.emod_nonneg _ (by omega)) g2 ?_
          exact fin _ (by unfold togF; rw [if_pos (by injection z)])
        · walk_at "rd"
          exact fin _ (by unfold togF; rw [if_neg (fun y => z (by rw [y]))])
      · obtain ⟨o, o2, rfl, rfl⟩ := hJ
        walk_at "rd"
        refine r_joinC (Evl.sq_of upd_same) (by rw [List.length_map, List.length_range]; omega) ?_
        walk_at "rd"
        refine ⟨small (by show 2 ≤ 1000000; decide), fun p hp => ?_⟩
        refine q p _ ((Evl.Ex.new hD).trans (Evl.Ex.new hp)) ?_
        rw [upd_same, et]
        rfl
def spSize (C : Addr) : Sp := fun vs H Q E => ∃ (l : List Nat) (i d : Nat) (ds : List Nat), vs = [.str (S l), .int (i : Int), .int ((i + (ds.length + 1) : Nat) : Int)] ∧ l.length ≤ 5000 ∧ dsOf (l.drop i) = d :: ds ∧ (d = 48 → Wish C "at" (.int (i : Int)) H E) ∧ (d ≠ 48 → Q (.int ((dval ((d :: ds).take 3) : Nat) : Int)) H)
theorem ds_get {l : List Nat} {i d : Nat} {ds : List Nat} (h : dsOf (l.drop i) = d :: ds) : l[i]? = some d ∧ i < l.length := by
  have e := ds_rs (l.drop i)
  rw [h] at e
  have e2 : l[i]? = some d := by
    have : (l.drop i)[0]? = some d := by rw [← e]; rfl
    rwa [List.getElem?_drop, Nat.add_zero] at this
  exact ⟨e2, (List.getElem?_eq_some_iff.mp e2).1⟩
theorem ds_take {l : List Nat} {i d : Nat} {ds : List Nat} {k : Nat} (h : dsOf (l.drop i) = d :: ds) (hk : k = min 3 (ds.length + 1)) : (l.drop i).take k = (d :: ds).take 3 := by
  have e := ds_rs (l.drop i)
  rw [h] at e
  rw [← e, List.take_append_of_le_length (by rw [List.length_cons]; omega), hk]
  rcases Nat.le_total 3 (ds.length + 1) with z | z
  · rw [Nat.min_eq_left z]
  · rw [Nat.min_eq_right z, List.take_of_length_le (by rw [List.length_cons]; omega), List.take_of_length_le (by rw [List.length_cons]; omega)]
abbrev s_size_of_run : Stmt := topS 27
abbrev N_size_of_run : List Str := ["text", "at", "end"]
theorem sc_size_of_run : FnScope ["text", "at", "end"] ["text", "at", "end"] (defScope s_size_of_run) := ⟨rfl, rfl, rfl, by decide +kernel, rfl, by decide +kernel, by decide +kernel⟩
theorem can_size_of_run (T : Bi mg) (F : Defd K mg "size_of_run" s_size_of_run ["text", "at", "end"]) {A_BadText : Addr} (E_BadText : Err P w K mg base "BadText" A_BadText "at") : Can P w K mg base (L2.CX P w) 3 "size_of_run" ["text", "at", "end"] (spSize A_BadText) := by
  refine canX F sc_size_of_run (fun vs H Q E h => ?_) (fun f cdv A outer s H vs Q E hr h => ⟨_, (pss_cons (ps_if (pt_cmpR op_eq (pe_ix ix_strS (pv 0) (pv 1) (fun _ _ => rfl)) (pe_strL [48] (by decide +kernel)) (nomark _)) (pss_one (ps_raise rfl (takes_of rfl rfl rfl rfl) (pmk_err E_BadText hr (by decide) rfl (pa_cons (pv 1) pa_nil)))) pss_nil)
  (pss_one (ps_ret (pe_callTy call_int_str (by rfl) T.b_int boot_int (pa_cons (pe_slice sl_strS (pv 0) (po_some (pv 1)) (po_some (pe_callB (call_min2 rfl) (by rfl) T.b_min boot_min (pa_cons (pv 2) (pa_cons (pe_op op_add (pv 1) pe_int) pa_nil))))) pa_nil))))), ?_⟩)
  · obtain ⟨_, _, _, _, rfl, _⟩ := h
    rfl
  · obtain ⟨l, i, d, ds, rfl, hl, hd, w1, q⟩ := h
    obtain ⟨g, gi⟩ := ds_get hd
    have g' : l[(i : Int).toNat]? = some d := by rw [Int.toNat_natCast]; exact g
    walk_at "rd"
    refine r_ixSS (small (by omega)) (by omega) g' ?_
    walk_at "rd"
    refine r_ite (fun h => ?_) (fun h => ?_)
    · walk_at "rd"
      exact r_mk (w1 (by injection h))
    · walk_at "rd"
      refine ⟨_, _, rfl, ?_⟩
      have ek : (if ((i : Int) + 3) < (((i + (ds.length + 1) : Nat)) : Int) then ((i : Int) + 3) else (((i + (ds.length + 1) : Nat)) : Int)) = ((i + min 3 (ds.length + 1) : Nat) : Int) := by
        split <;> omega
      rw [ek]
      walk_at "rd"
      rw [cut_mid (by omega) (by omega), Int.toNat_natCast, Int.toNat_natCast, show i + min 3 (ds.length + 1) - i = min 3 (ds.length + 1) by omega, ds_take hd rfl]
      have hx : ∀ c ∈ (d :: ds).take 3, isDig c = true := fun c hc => by
        have := ds_dig (l.drop i) c
        rw [hd] at this
        exact this (List.mem_of_mem_take hc)
      refine ⟨_, _, rfl, int_digits (by simp) (by rw [List.length_take]; omega) hx, ?_, q fun z => h (by rw [z])⟩
      rw [S_len, List.length_take]
      omega
def whl (s : List Nat) (b : Nat) : Option Nat := match dsOf s with
  | [] => none
  | d :: ds => if d = 48 then none else if b ≤ dval ((d :: ds).take 3) ∧ dval ((d :: ds).take 3) ≤ 24 then some (dval ((d :: ds).take 3)) else none
theorem rdWhole_eq (s : List Nat) (b : Nat) (row : List Nat) : rdWhole s b row = match whl s b with
  | none => .error s.length
  | some w => .ok (rsOf s, w, row ++ List.replicate (w - b) 46) := by
  unfold rdWhole whl
  cases dsOf s with
  | nil => rfl
  | cons d ds =>
    show (if d = 48 then _ else _) = _
    by_cases h : d = 48
    · rw [if_pos h]
      simp only [if_pos h]
    · rw [if_neg h]
      simp only [if_neg h]
      by_cases h2 : b ≤ dval ((d :: ds).take 3) ∧ dval ((d :: ds).take 3) ≤ 24
      · rw [if_pos h2]
        simp only [if_pos h2]
      · rw [if_neg h2]
        simp only [if_neg h2]
def spWhole (C : Addr) : Sp := fun vs H Q E => ∃ (l : List Nat) (i b : Nat), vs = [.str (S l), .int (i : Int), .int (b : Int)] ∧ l.length ≤ 5000 ∧ (whl (l.drop i) b = none → Wish C "at" (.int (i : Int)) H E) ∧
  ∀ w p H', whl (l.drop i) b = some w → Ex H H' → H' p = some (.tup [.int ((i + (dsOf (l.drop i)).length : Nat) : Int), .int (w : Int)]) → Q (.ref p) H'
abbrev s_read_whole : Stmt := topS 30
abbrev N_read_whole : List Str := ["text", "at", "beats", "end", "whole"]
theorem sc_read_whole : FnScope ["text", "at", "beats", "end", "whole"] ["text", "at", "beats"] (defScope s_read_whole) := ⟨rfl, rfl, rfl, by decide +kernel, rfl, by decide +kernel, by decide +kernel⟩
theorem can_read_whole (T : Bi mg) (F : Defd K mg "read_whole" s_read_whole ["text", "at", "beats"]) (c_MOST_BEATS : ∃ u, mg "MOST_BEATS" = some u ∧ RelV (.int 24) u) {A_BadText : Addr} (E_BadText : Err P w K mg base "BadText" A_BadText "at") (C_end_of_run : Can P w K mg base L2.CX0 1 "end_of_run" ["text", "at"] spEnd) (C_size_of_run : Can P w K mg base (L2.CX P w) 3 "size_of_run" ["text", "at", "end"] (spSize A_BadText)) : Can P w K mg base (L2.CX P w) 4 "read_whole" ["text", "at", "beats"] (spWhole A_BadText) := by
  refine canX F sc_read_whole (fun vs H Q E h => ?_) (fun f cdv A outer s H vs Q E hr h => ⟨_, (pss_cons (ps_set (i := 3) sc_read_whole.nd rfl (by first | exact Or.inl rfl | exact Or.inr rfl) (pe_can C_end_of_run hr (by decide) rfl (pa_cons (pv 0) (pa_cons (pv 1) pa_nil))))
  (pss_cons (ps_if (pt_cmpR op_eq (pv 3) (pv 1) (nomark _)) (pss_one (ps_raise rfl (takes_of rfl rfl rfl rfl) (pmk_err E_BadText hr (by decide) rfl (pa_cons (pv 1) pa_nil)))) pss_nil)
  (pss_cons (ps_set (i := 4) sc_read_whole.nd rfl (by first | exact Or.inl rfl | exact Or.inr rfl) (pe_canX C_size_of_run hr (by decide) rfl (passes_call (takes_of rfl rfl rfl rfl) (fun _ _ _ _ h => h)) (pa_cons (pv 0) (pa_cons (pv 1) (pa_cons (pv 3) pa_nil)))))
  (pss_cons (ps_if (pt_not (pt_chain op_le op_le (pv 2) (pv 4) (C8.pe_gc rfl c_MOST_BEATS))) (pss_one (ps_raise rfl (takes_of rfl rfl rfl rfl) (pmk_err E_BadText hr (by decide) rfl (pa_cons (pv 1) pa_nil)))) pss_nil)
  (pss_one (ps_ret (pe_tup (pa_cons (pv 3) (pa_cons (pv 4) pa_nil))))))))), ?_⟩)
  · obtain ⟨_, _, _, rfl, _⟩ := h
    rfl
  · obtain ⟨l, i, b, rfl, hl, w1, q⟩ := h
    walk_at "rd"
    refine ⟨l, i, rfl, by omega, ?_⟩
    walk_at "rd"
    cases hd : dsOf (l.drop i) with
    | nil =>
      refine r_ite (fun h => ?_) (fun h => absurd (by rw [List.length_nil, Nat.add_zero]) h)
      walk_at "rd"
      exact r_mk (w1 (by unfold whl; rw [hd]))
    | cons d ds =>
      refine r_ite (fun h => absurd h (by rw [List.length_cons]; omega)) (fun _ => ?_)
      walk_at "rd"
      refine ⟨l, i, d, ds, rfl, hl, hd, fun h => w1 (by unfold whl; rw [hd]; simp only [if_pos h]), fun h => ?_⟩
      walk_at "rd"
      have hw : whl (l.drop i) b = if b ≤ dval ((d :: ds).take 3) ∧ dval ((d :: ds).take 3) ≤ 24 then some (dval ((d :: ds).take 3)) else none := by
        unfold whl
        rw [hd]
        simp only [if_neg h]
      generalize dval ((d :: ds).take 3) = t at hw
      refine r_ite (fun h1 => ?_) (fun h1 => ?_)
      · walk_at "rd"
        refine r_iteN (fun h2 => ?_) (fun h2 => ?_)
        · walk_at "rd"
          exact r_mk (w1 (by rw [hw, if_neg (by omega)]))
        · walk_at "rd"
          refine ⟨small (by show 2 ≤ 1000000; decide), fun p hp => ?_⟩
          refine q t p _ (by rw [hw, if_pos (by omega)]) (Evl.Ex.new hp) ?_
          rw [upd_same, hd]
      · walk_at "rd"
        exact r_mk (w1 (by rw [hw, if_neg (by omega)]))
end
end Fk

set_option Elab.async false
set_option linter.all false
set_option maxRecDepth 100000
set_option maxHeartbeats 4000000
namespace Fk
open PySem PySem.Spec PyProof.Rows L2 Fg Rt
local macro_rules | `(tactic| walk_at "rd1") => `(tactic| first
  | with_reducible refine r_seq ?_
  | with_reducible refine r_asg ?_
  | with_reducible refine r_gname ?_
  | with_reducible refine r_gsub ?_
  | with_reducible refine r_ret ?_
  | with_reducible refine r_retN ?_
  | with_reducible refine r_next ?_
  | with_reducible refine r_drop ?_
  | with_reducible refine r_ifS ?_
  | with_reducible refine r_if ?_
  | with_reducible refine r_par ?_
  | with_reducible refine r_pair ?_
  | with_reducible refine r_test ?_
  | with_reducible refine r_tB ?_
  | with_reducible refine r_not ?_
  | with_reducible refine r_and ?_
  | with_reducible refine r_or ?_
  | with_reducible refine r_andV ?_
  | with_reducible refine r_orV ?_
  | with_reducible refine r_notV ?_
  | with_reducible refine r_nil ?_
  | with_reducible refine r_cons ?_
  | with_reducible refine r_call ?_
  | with_reducible refine r_callS ?_
  | with_reducible refine r_cb ?_
  | with_reducible refine r_then ?_
  | with_reducible refine r_tup ?_
  | with_reducible refine r_lst ?_
  | with_reducible refine r_sl ?_
  | with_reducible refine r_nopart ?_
  | with_reducible refine r_part ?_
  | with_reducible refine r_lcR1 ?_
  | with_reducible refine r_lcR2 ?_
  | with_reducible refine r_lcL ?_
  | with_reducible refine r_lcT ?_
  | with_reducible refine r_forR1 ?_
  | with_reducible refine r_forR2 ?_
  | with_reducible refine r_forL ?_
  | with_reducible refine r_forT ?_
  | with_reducible refine r_forE ?_
  | with_reducible refine r_strE ?_
  | ((with_reducible refine r_rng1 ?hc ?_); (case hc => omega))
  | ((with_reducible refine r_rng2 ?hc ?_); (case hc => omega))
  | ((with_reducible refine' r_refL ?hc ?_); (case hc => first | assumption | exact Evl.sq_of (by assumption)))
  | ((with_reducible refine' r_refT ?hc ?_); (case hc => first | assumption | exact Evl.st_of (by assumption)))
  | with_reducible refine r_op ?_
  | with_reducible refine r_un ?_
  | with_reducible refine r_chain ?_
  | ((with_reducible refine' r_var ?hv ?_); (case hv => exact rfl))
  | with_reducible refine r_cS ?_
  | with_reducible refine r_cs ?_
  | with_reducible refine r_c ?_
  | with_reducible refine r_yes ?_
  | with_reducible refine r_bm ?_
  | with_reducible refine r_bl ?_
  | with_reducible refine r_in ?_
  | with_reducible refine r_ty ?_
  | with_reducible refine r_I0 ?_
  | ((with_reducible refine r_I ?hc ?_); (case hc => first | assumption | (show (0 : Int) < _; decide) | exact Or.inr ⟨by decide, by decide⟩ | exact Or.inr ⟨by omega, by omega⟩ | exact Or.inl ⟨by decide, by decide⟩ | exact (show CDivW _ _ from ⟨by decide, by decide +kernel⟩) | exact (show CPowW _ _ from ⟨by decide, by decide +kernel⟩) | (show (0 : Int) < _; omega)))
  | with_reducible refine r_U ?_
  | with_reducible refine r_eqI ?_
  | with_reducible refine r_neI ?_
  | with_reducible refine r_eqS ?_
  | with_reducible refine r_neS ?_
  | with_reducible refine r_eqB ?_
  | with_reducible refine r_neB ?_
  | with_reducible refine r_niS ?_
  | with_reducible refine r_inSS ?_
  | ((with_reducible refine r_slSS ?hc ?_); (case hc => first | exact small (by omega) | exact small (by simp; omega)))
  | ((with_reducible refine r_lenS ?hc ?_); (case hc => first | exact small (by omega) | exact small (by simp; omega)))
  | ((with_reducible refine' r_lenL ?hc ?_); (case hc => first | assumption | exact Evl.sq_of (by assumption)))
  | ((with_reducible refine' r_lenT ?hc ?_); (case hc => first | assumption | exact Evl.st_of (by assumption)))
  | ((with_reducible refine' r_ixL ?h1 ?h2 ?h3 ?_); (case h1 => first | assumption | exact Evl.sq_of (by assumption) | exact Evl.sq_of upd_same); (case h2 => first | decide | omega); (case h3 => first | exact rfl | assumption))
  | ((with_reducible refine' r_ixT ?h1 ?h2 ?h3 ?_); (case h1 => first | assumption | exact Evl.st_of (by assumption)); (case h2 => first | decide | omega); (case h3 => first | exact rfl | assumption))
  | with_reducible refine r_T ?_
  | with_reducible refine r_notNn ?_
  | with_reducible refine r_notN_int ?_
  | with_reducible refine r_notN_str ?_
  | with_reducible refine r_notN_ref ?_
  | with_reducible refine r_isNn ?_
  | with_reducible refine r_isN_int ?_
  | with_reducible refine r_isN_str ?_
  | with_reducible refine r_isN_ref ?_
  | ((with_reducible refine' r_isi ?ht ?hk ?_); (case ht => first | exact .base (.int _) | exact .base (.bl _) | exact .base (.str _) | exact .base .non | exact .base (.lst (by assumption)) | exact .base (.tup (by assumption))); (case hk => first | exact kb_int_int | exact kb_int_bool | exact kb_int_str | exact kb_int_list | exact kb_int_tuple | exact kb_bool_int | exact kb_bool_bool | exact kb_bool_str | exact kb_bool_list | exact kb_bool_tuple | exact kb_str_int | exact kb_str_bool | exact kb_str_str | exact kb_str_list | exact kb_str_tuple | exact kb_NoneType_int | exact kb_NoneType_bool | exact kb_NoneType_str | exact kb_NoneType_list | exact kb_NoneType_tuple | exact kb_list_int | exact kb_list_bool | exact kb_list_str | exact kb_list_list | exact kb_list_tuple | exact kb_tuple_int | exact kb_tuple_bool | exact kb_tuple_str | exact kb_tuple_list | exact kb_tuple_tuple))
  | with_reducible refine r_F ?_
  | with_reducible refine r_nT ?_
  | with_reducible refine r_nF ?_
  | with_reducible refine r_mko ?_
  | with_reducible refine r_xf ?_
  | ((with_reducible refine' r_sum ?hc ?_); (case hc => first | assumption | exact Evl.sq_of (by assumption)))
  | ((with_reducible refine' r_setL ?h1 ?h2 ?h3 ?_); (case h1 => first | assumption | exact upd_same); (case h2 => first | decide | omega); (case h3 => first | (show _ < _; decide) | (simp; done)))
  | with_reducible refine r_int ?_
  | with_reducible refine r_abs ?_)
local macro_rules | `(tactic| walk_at "rd") => `(tactic| repeat (walk_at "rd1"))

section
variable {P : Program} {w : World} {K : PySem.W.Frag} {mg : Str → Option Value} {base : Heap}
def OutR (C : Addr) (l : List Nat) (o : Res) (H : Hp) (Q : VK) (E : XK) : Prop := match o with
  | .error e => Wish C "at" (.int ((l.length - e : Nat) : Int)) H E
  | .ok g => ∀ p H', Ex H H' → H' p = some (.tup [.int ((l.length - g.1.length : Nat) : Int), .int (g.2.1 : Int), .str (S g.2.2)]) → Q (.ref p) H'
theorem OutR.ex {C : Addr} {l : List Nat} {o : Res} {H H' : Hp} {Q : VK} {E : XK} (h : OutR C l o H Q E) (e : Ex H H') : OutR C l o H' Q E := by
  cases o with
  | error x => exact Wish.ex h e
  | ok g => exact fun p H2 e2 h2 => h p H2 (e.trans e2) h2
theorem OutR.bad {C : Addr} {l : List Nat} {o : Res} {H : Hp} {Q : VK} {E : XK} {e : Nat} {z : Int} (h : OutR C l o H Q E) (he : o = .error e) (hz : z = ((l.length - e : Nat) : Int)) : Wish C "at" (.int z) H E := by
  subst he
  rw [hz]
  exact h
theorem OutR.good {C : Addr} {l : List Nat} {o : Res} {H : Hp} {Q : VK} {E : XK} {g : Got} (h : OutR C l o H Q E) (he : o = .ok g) {p : Addr} {H' : Hp} (ex : Ex H H') {z y : Int} {r : List Nat} (hp : H' p = some (.tup [.int z, .int y, .str (S r)])) (hz : z = ((l.length - g.1.length : Nat) : Int)) (hy : y = (g.2.1 : Int)) (hr : r = g.2.2) : Q (.ref p) H' := by
  subst he
  subst hz hy hr
  exact h p H' ex hp
def spParts (C : Addr) (n : Nat) : Sp := fun vs H Q E => ∃ (l : List Nat) (i : Nat), vs = [.str (S l), .int (i : Int), .int (6 - (n : Int))] ∧ l.length ≤ 2000 ∧ i ≤ l.length ∧ OutR C l (rdAt n (decide (n = 6)) (l.drop i)) H Q E
def spBelow (C : Addr) : Nat → Sp
  | 0 => fun _ _ _ _ => False
  | n + 1 => spParts C n
def spItem (C : Addr) (n : Nat) : Sp := fun vs H Q E => ∃ (l : List Nat) (i : Nat), vs = [.str (S l), .int (i : Int), .int (6 - (n : Int))] ∧ n ≤ 6 ∧ l.length ≤ 2000 ∧ i ≤ l.length ∧ goes (l.drop i) = true ∧ OutR C l (rdItem (innerOf n) (l.drop i)) H Q E
theorem r_gtup3 {K : PySem.W.Frag} {σ : L2.St} {H : Hp} {a : Addr} {n i j m : Nat} {x y z : V} {Q : L2.St → Hp → Prop} (hn : n = 3) (h : SqT K H a [x, y, z]) (q : Q (((σ.set i (some x)).set j (some y)).set m (some z)) H) : gTup K n (gCons (gName i) (gCons (gName j) (gCons (gName m) gNil))) (.ref a) σ H Q := by
  subst hn
  exact ⟨a, [x, y, z], rfl, h, rfl, x, [y, z], rfl, y, [z], rfl, z, [], rfl, rfl, q⟩
theorem big_lt {k b : Nat} (hk : k ≤ 2000) (h : b ≤ 2 ^ (6 * k)) : b < 2 ^ 13000 := Nat.lt_of_le_of_lt h (Nat.pow_lt_pow_right (by decide) (by omega))
theorem flat_one (t c : Nat) : (List.replicate t [c]).flatten = List.replicate t c := by
  induction t with
  | zero => rfl
  | succ t ih => rw [List.replicate_succ, List.flatten_cons, ih, List.replicate_succ]; rfl
theorem one_le {l : List Nat} {i : Nat} : ((l.drop i).take 1).length ≤ 1 := by rw [List.length_take]; omega
abbrev s_read_item : Stmt := topS 31
abbrev N_read_item : List Str := ["text", "at", "deep", "end", "char", "times", "closing", "beats", "row"]
theorem sc_read_item : FnScope ["text", "at", "deep", "end", "char", "times", "closing", "beats", "row"] ["text", "at", "deep"] (defScope s_read_item) := ⟨rfl, rfl, rfl, by decide +kernel, rfl, by decide +kernel, by decide +kernel⟩
theorem can_read_item (T : Bi mg) (F : Defd K mg "read_item" s_read_item ["text", "at", "deep"]) {n k : Nat} (hk : 3 ≤ k) (c_LEAST_TIMES : ∃ u, mg "LEAST_TIMES" = some u ∧ RelV (.int 2) u) (c_MOST_TIMES : ∃ u, mg "MOST_TIMES" = some u ∧ RelV (.int 24) u) (c_MOST_DEEP : ∃ u, mg "MOST_DEEP" = some u ∧ RelV (.int 6) u) {A_BadText : Addr} (E_BadText : Err P w K mg base "BadText" A_BadText "at") (C_end_of_run : Can P w K mg base L2.CX0 1 "end_of_run" ["text", "at"] spEnd) (C_size_of_run : Can P w K mg base (L2.CX P w) 3 "size_of_run" ["text", "at", "end"] (spSize A_BadText)) (C_char_at : Can P w K mg base L2.CX0 1 "char_at" ["text", "at"] spChar) (C_is_sign : Can P w K mg base L2.CX0 1 "is_sign" ["thing"] spIsSign) (C_kept : Can P w K mg base L2.CX0 1 "kept" ["beats", "row"] spKept) (C_read_parts : Can P w K mg base (L2.CX P w) k "read_parts" ["text", "at", "deep"] (spBelow A_BadText n)) : Can P w K mg base (L2.CX P w) (k + 1) "read_item" ["text", "at", "deep"] (spItem A_BadText n) := by
  refine canX F sc_read_item (fun vs H Q E h => ?_) (fun f cdv A outer s H vs Q E hr h => ⟨_, (pss_cons (ps_set (i := 3) sc_read_item.nd rfl (by first | exact Or.inl rfl | exact Or.inr rfl) (pe_can C_end_of_run hr (by omega) rfl (pa_cons (pv 0) (pa_cons (pv 1) pa_nil))))
  (pss_cons (ps_set (i := 4) sc_read_item.nd rfl (by first | exact Or.inl rfl | exact Or.inr rfl) (pe_can C_char_at hr (by omega) rfl (pa_cons (pv 0) (pa_cons (pv 3) pa_nil))))
  (pss_cons (ps_if (pt_cmpR op_eq (pv 3) (pv 1) (nomark _)) (pss_one (ps_ret (pe_tup (pa_cons (pe_op op_add (pv 1) pe_int) (pa_cons pe_int (pa_cons (pv 4) pa_nil)))))) pss_nil)
  (pss_cons (ps_set (i := 5) sc_read_item.nd rfl (by first | exact Or.inl rfl | exact Or.inr rfl) (pe_canX C_size_of_run hr (by omega) rfl (passes_call (takes_of rfl rfl rfl rfl) (fun _ _ _ _ h => h)) (pa_cons (pv 0) (pa_cons (pv 1) (pa_cons (pv 3) pa_nil)))))
  (pss_cons (ps_if (PW.pt (pw_and (pt_not (pt_val (pe_can C_is_sign hr (by omega) rfl (pa_cons (pv 4) pa_nil)))) (pw_and1 (pt_cmpR op_ne (pv 4) (pe_strL [40] (by decide +kernel)) (nomark _))))) (pss_one (ps_raise rfl (takes_of rfl rfl rfl rfl) (pmk_err E_BadText hr (by omega) rfl (pa_cons (pv 3) pa_nil)))) pss_nil)
  (pss_cons (ps_if (pt_not (pt_chain op_le op_le (C8.pe_gc rfl c_LEAST_TIMES) (pv 5) (C8.pe_gc rfl c_MOST_TIMES))) (pss_one (ps_raise rfl (takes_of rfl rfl rfl rfl) (pmk_err E_BadText hr (by omega) rfl (pa_cons (pv 1) pa_nil)))) pss_nil)
  (pss_cons (ps_if (pt_val (pe_can C_is_sign hr (by omega) rfl (pa_cons (pv 4) pa_nil))) (pss_one (ps_ret (pe_tup (pa_cons (pe_op op_add (pv 3) pe_int) (pa_cons (pv 5) (pa_cons (pe_op op_repS (pv 4) (pv 5)) pa_nil)))))) pss_nil)
  (pss_cons (ps_if (pt_cmpR op_eq (pv 2) (C8.pe_gc rfl c_MOST_DEEP) (nomark _)) (pss_one (ps_raise rfl (takes_of rfl rfl rfl rfl) (pmk_err E_BadText hr (by omega) rfl (pa_cons (pv 3) pa_nil)))) pss_nil)
  (pss_cons (ps_asg (pe_canX C_read_parts hr (by omega) rfl (passes_call (takes_of rfl rfl rfl rfl) (fun _ _ _ _ h => h)) (pa_cons (pv 0) (pa_cons (pe_op op_add (pv 3) pe_int) (pa_cons (pe_op op_add (pv 2) pe_int) pa_nil)))) (pg_tup rfl (pgs_cons (pg_name (i := 6) sc_read_item.nd rfl (by first | exact Or.inl rfl | exact Or.inr rfl)) (pgs_cons (pg_name (i := 7) sc_read_item.nd rfl (by first | exact Or.inl rfl | exact Or.inr rfl)) (pgs_cons (pg_name (i := 8) sc_read_item.nd rfl (by first | exact Or.inl rfl | exact Or.inr rfl)) pgs_nil)))))
  (pss_one (ps_ret (pe_tup (pa_cons (pe_op op_add (pv 6) pe_int) (pa_cons (pe_op op_mulW (pv 5) (pv 7)) (pa_cons (pe_can C_kept hr (by omega) rfl (pa_cons (pe_op op_mulW (pv 5) (pv 7)) (pa_cons (pe_op op_repS (pv 8) (pv 5)) pa_nil))) pa_nil))))))))))))))), ?_⟩)
  · obtain ⟨_, _, rfl, _⟩ := h
    rfl
  · obtain ⟨l, i, rfl, hn, hl, hi, hg, q⟩ := h
    have sl : (l.drop i).length = l.length - i := List.length_drop
    walk_at "rd"
    refine ⟨l, i, rfl, by omega, ?_⟩
    walk_at "rd"
    refine ⟨l, _, rfl, by omega, ?_⟩
    walk_at "rd"
    have hrs := rs_drop (l.drop i)
    rw [List.drop_drop] at hrs
    rw [← hrs]
    cases hd : dsOf (l.drop i) with
    | nil =>
      refine r_ite (fun h => ?_) (fun h => absurd (by rw [List.length_nil, Nat.add_zero]) h)
      walk_at "rd"
      have hr0 : rsOf (l.drop i) = l.drop i := by rw [hrs, hd, List.length_nil, Nat.add_zero]
      have s1 : 1 ≤ (l.drop i).length := by
        cases hs : l.drop i with
        | nil => rw [hs] at hg; cases hg
        | cons a b => simp
      have ho : rdItem (innerOf n) (l.drop i) = .ok ((l.drop i).drop 1, 1, (l.drop i).take 1) := by
        unfold rdItem
        rw [hd]
      refine ⟨small (by show 3 ≤ 1000000; decide), fun p hp => ?_⟩
      refine q.good ho (Evl.Ex.new hp) upd_same ?_ rfl (by rw [hr0])
      show (i : Int) + 1 = ((l.length - ((l.drop i).drop 1).length : Nat) : Int)
      rw [List.length_drop]
      omega
    | cons d ds =>
      refine r_ite (fun h => absurd h (by rw [List.length_cons]; omega)) (fun _ => ?_)
      walk_at "rd"
      have hlr := len_rs (l.drop i)
      rw [hd, List.length_cons] at hlr
      have ho0 : d = 48 → rdItem (innerOf n) (l.drop i) = .error (l.drop i).length := fun h => by
        unfold rdItem
        rw [hd]
        simp only [if_pos h]
      refine ⟨l, i, d, ds, rfl, by omega, hd, fun h => q.bad (ho0 h) (by rw [sl]; omega), fun h48 => ?_⟩
      clear ho0
      walk_at "rd"
      cases hc : rsOf (l.drop i) with
      | nil =>
        have ho : rdItem (innerOf n) (l.drop i) = .error 0 := by
          unfold rdItem
          rw [hd]
          simp only [if_neg h48]
          rw [hc]
        rw [hc] at hlr
        refine ⟨[], rfl, by decide, ?_⟩
        walk_at "rd"
        refine r_iteN (fun _ => ?_) (fun z => absurd z (by decide))
        walk_at "rd"
        refine r_mk (q.bad ho ?_)
        rw [List.length_nil] at hlr
        rw [List.length_cons]
        omega
      | cons c r =>
        rw [hc, List.length_cons] at hlr
        have ho : rdItem (innerOf n) (l.drop i) = (if isSg c = true then (if 2 ≤ dval ((d :: ds).take 3) ∧ dval ((d :: ds).take 3) ≤ 24 then .ok (r, dval ((d :: ds).take 3), List.replicate (dval ((d :: ds).take 3)) c) else .error (l.drop i).length)
          else if c = 40 then (if 2 ≤ dval ((d :: ds).take 3) ∧ dval ((d :: ds).take 3) ≤ 24 then grp (innerOf n) (dval ((d :: ds).take 3)) r else .error (l.drop i).length)
          else .error (r.length + 1)) := by
          unfold rdItem
          rw [hd]
          simp only [if_neg h48]
          rw [hc]
        have er : r = l.drop (i + (ds.length + 1) + 1) := by
          have e : (c :: r).drop 1 = (l.drop (i + (ds.length + 1))).drop 1 := by rw [← hc, hrs, hd, List.length_cons]
          rw [List.drop_drop] at e
          simpa using e
        have le24 : dval ((d :: ds).take 3) ≤ 24 → dval ((d :: ds).take 3) < 2 ^ 10 := fun z => by omega
        generalize dval ((d :: ds).take 3) = t at ho le24 ⊢
        refine ⟨[c], rfl, Nat.le_refl 1, ?_⟩
        walk_at "rd"
        -- behind the first test
        refine r_iteNB (fun hs => ?_) (fun hs => ?_)
        · have hs' : isSg c = false := hs
          rw [hs', if_neg (by decide)] at ho
          walk_at "rd"
          refine r_iteN (fun h40 => ?_) (fun h40 => ?_)
          · have n40 : c ≠ 40 := fun z => h40 (by rw [z]; rfl)
            rw [if_neg n40] at ho
            walk_at "rd"
            refine r_mk (q.bad ho ?_)
            rw [List.length_cons]
            omega
          · have e40 : c = 40 := by injection h40
            subst e40
            rw [if_pos rfl] at ho
            walk_at "rd"
            refine r_ite (fun t2 => ?_) (fun t2 => ?_)
            · walk_at "rd"
              refine r_iteN (fun t24 => ?_) (fun t24 => ?_)
              · rw [if_neg (by omega)] at ho
                walk_at "rd"
                exact r_mk (q.bad ho (by rw [sl]; omega))
              · rw [if_pos (by omega)] at ho
                walk_at "rd"
                refine ⟨[40], rfl, Nat.le_refl 1, ?_⟩
                walk_at "rd"
                refine r_iteB (fun z => absurd (z.symm.trans hs) (by decide)) (fun _ => ?_)
                walk_at "rd"
                refine r_ite (fun hn6 => ?_) (fun hn6 => ?_)
                · have n0 : n = 0 := by omega
                  subst n0
                  walk_at "rd"
                  refine r_mk (q.bad ho ?_)
                  rw [List.length_cons]
                  omega
                · obtain ⟨m, rfl⟩ : ∃ m, n = m + 1 := ⟨n - 1, by omega⟩
                  have e1 : ((i + (d :: ds).length : Nat) : Int) + 1 = ((i + (ds.length + 1) + 1 : Nat) : Int) := by rw [List.length_cons]; omega
                  have e2 : (6 : Int) - ((m + 1 : Nat) : Int) + 1 = 6 - (m : Int) := by omega
                  have hm6 : decide (m = 6) = false := decide_eq_false (by omega)
                  walk_at "rd"
                  refine ⟨l, i + (ds.length + 1) + 1, by rw [e1, e2]; rfl, hl, by omega, ?_⟩
                  rw [← er, hm6]
                  have ho2 : rdItem (innerOf (m + 1)) (l.drop i) = match rdAt m false r with
                    | .error e => .error e
                    | .ok (r2, b, row) => .ok (r2.drop 1, t * b, kept (t * b) (rep t row)) := ho
                  cases ha : rdAt m false r with
                  | error e =>
                    rw [ha] at ho2
                    exact q.bad ho2 rfl
                  | ok g =>
                    obtain ⟨r2, b, row⟩ := g
                    rw [ha] at ho2
                    obtain ⟨Fi, ne⟩ := ok_at m false r _ ha
                    have ne2 : r2 ≠ [] := ne rfl
                    obtain ⟨k1, k2, k3, k4, k5⟩ := Fi.suf
                    have k4' : r2 = r.drop k1 := k4
                    have k5' : b ≤ 2 ^ (6 * k1) := k5
                    have rl : r2.length = r.length - k1 := by rw [k4', List.length_drop]
                    have r1 : 1 ≤ r2.length := by
                      cases r2 with
                      | nil => exact absurd rfl ne2
                      | cons a b => simp
                    have hmul : CMulW (t : Int) (b : Int) := wide_mul (a := 10) (b := 13000) (by rw [Int.natAbs_natCast]; omega) (by rw [Int.natAbs_natCast]; exact big_lt (by omega) k5') (by decide) (by decide) (by decide)
                    have rw24 : row.length ≤ 24 := by
                      rcases Nat.lt_or_ge 24 b with z | z
                      · rw [show row = [] from Fi.non z]; exact Nat.zero_le _
                      · rw [show row.length = b from (Fi.row z).1]; exact z
                    have hrep : row.length * t ≤ 1000 := Nat.le_trans (Nat.mul_le_mul rw24 (show t ≤ 24 by omega)) (by decide)
                    intro p H1 ex1 hp
                    walk_at "rd"
                    refine r_gtup3 rfl (Evl.st_of hp) ?_
                    walk_at "rd"
                    refine r_repS (by omega) (by omega) (small (by rw [Int.toNat_natCast]; exact Nat.le_trans hrep (by decide))) ?_
                    walk_at "rd"
                    refine ⟨t * b, rep t row, by rw [Int.natCast_mul, Int.toNat_natCast]; rfl, ?_⟩
                    walk_at "rd"
                    refine ⟨small (by show 3 ≤ 1000000; decide), fun p2 hp2 => ?_⟩
                    refine q.good ho2 (ex1.trans (Evl.Ex.new hp2)) upd_same ?_ (by rw [Int.natCast_mul]) rfl
                    show ((l.length - r2.length : Nat) : Int) + 1 = ((l.length - (r2.drop 1).length : Nat) : Int)
                    rw [List.length_drop]
                    omega
            · rw [if_neg (by omega)] at ho
              walk_at "rd"
              exact r_mk (q.bad ho (by rw [sl]; omega))
        · have hs' : isSg c = true := hs
          rw [if_pos hs'] at ho
          walk_at "rd"
          refine r_ite (fun t2 => ?_) (fun t2 => ?_)
          · walk_at "rd"
            refine r_iteN (fun t24 => ?_) (fun t24 => ?_)
            · rw [if_neg (by omega)] at ho
              walk_at "rd"
              exact r_mk (q.bad ho (by rw [sl]; omega))
            · rw [if_pos (by omega)] at ho
              walk_at "rd"
              refine ⟨[c], rfl, Nat.le_refl 1, ?_⟩
              walk_at "rd"
              refine r_iteB (fun _ => ?_) (fun z => absurd (z.symm.trans hs) (by decide))
              walk_at "rd"
              refine r_repS (by omega) (by omega) (small (by rw [Int.toNat_natCast]; show 1 * t ≤ _; omega)) ?_
              walk_at "rd"
              refine ⟨small (by show 3 ≤ 1000000; decide), fun p hp => ?_⟩
              refine q.good ho (Evl.Ex.new hp) upd_same ?_ rfl ?_
              · show ((i + (d :: ds).length : Nat) : Int) + 1 = ((l.length - r.length : Nat) : Int)
                rw [List.length_cons]
                omega
              · rw [Int.toNat_natCast]
                exact flat_one t c
          · rw [if_neg (by omega)] at ho
            walk_at "rd"
            exact r_mk (q.bad ho (by rw [sl]; omega))
end
end Fk

set_option Elab.async false
set_option linter.all false
set_option maxRecDepth 100000
set_option maxHeartbeats 4000000
namespace Fk
open PySem PySem.Spec PyProof.Rows L2 Fg Rt
local macro_rules | `(tactic| walk_at "rd1") => `(tactic| first
  | with_reducible refine r_seq ?_
  | with_reducible refine r_asg ?_
  | with_reducible refine r_gname ?_
  | with_reducible refine r_gsub ?_
  | with_reducible refine r_ret ?_
  | with_reducible refine r_retN ?_
  | with_reducible refine r_next ?_
  | with_reducible refine r_drop ?_
  | with_reducible refine r_ifS ?_
  | with_reducible refine r_if ?_
  | with_reducible refine r_par ?_
  | with_reducible refine r_pair ?_
  | with_reducible refine r_test ?_
  | with_reducible refine r_tB ?_
  | with_reducible refine r_not ?_
  | with_reducible refine r_and ?_
  | with_reducible refine r_or ?_
  | with_reducible refine r_andV ?_
  | with_reducible refine r_orV ?_
  | with_reducible refine r_notV ?_
  | with_reducible refine r_nil ?_
  | with_reducible refine r_cons ?_
  | with_reducible refine r_call ?_
  | with_reducible refine r_callS ?_
  | with_reducible refine r_cb ?_
  | with_reducible refine r_then ?_
  | with_reducible refine r_tup ?_
  | with_reducible refine r_lst ?_
  | with_reducible refine r_sl ?_
  | with_reducible refine r_nopart ?_
  | with_reducible refine r_part ?_
  | with_reducible refine r_lcR1 ?_
  | with_reducible refine r_lcR2 ?_
  | with_reducible refine r_lcL ?_
  | with_reducible refine r_lcT ?_
  | with_reducible refine r_forR1 ?_
  | with_reducible refine r_forR2 ?_
  | with_reducible refine r_forL ?_
  | with_reducible refine r_forT ?_
  | with_reducible refine r_forE ?_
  | with_reducible refine r_strE ?_
  | ((with_reducible refine r_rng1 ?hc ?_); (case hc => omega))
  | ((with_reducible refine r_rng2 ?hc ?_); (case hc => omega))
  | ((with_reducible refine' r_refL ?hc ?_); (case hc => first | assumption | exact Evl.sq_of (by assumption)))
  | ((with_reducible refine' r_refT ?hc ?_); (case hc => first | assumption | exact Evl.st_of (by assumption)))
  | with_reducible refine r_op ?_
  | with_reducible refine r_un ?_
  | with_reducible refine r_chain ?_
  | ((with_reducible refine' r_var ?hv ?_); (case hv => exact rfl))
  | with_reducible refine r_cS ?_
  | with_reducible refine r_cs ?_
  | with_reducible refine r_c ?_
  | with_reducible refine r_yes ?_
  | with_reducible refine r_bm ?_
  | with_reducible refine r_bl ?_
  | with_reducible refine r_in ?_
  | with_reducible refine r_ty ?_
  | with_reducible refine r_I0 ?_
  | ((with_reducible refine r_I ?hc ?_); (case hc => first | assumption | (show (0 : Int) < _; decide) | exact Or.inr ⟨by decide, by decide⟩ | exact Or.inr ⟨by omega, by omega⟩ | exact Or.inl ⟨by decide, by decide⟩ | exact (show CDivW _ _ from ⟨by decide, by decide +kernel⟩) | exact (show CPowW _ _ from ⟨by decide, by decide +kernel⟩) | (show (0 : Int) < _; omega)))
  | with_reducible refine r_U ?_
  | with_reducible refine r_eqI ?_
  | with_reducible refine r_neI ?_
  | with_reducible refine r_eqS ?_
  | with_reducible refine r_neS ?_
  | with_reducible refine r_eqB ?_
  | with_reducible refine r_neB ?_
  | with_reducible refine r_niS ?_
  | with_reducible refine r_inSS ?_
  | ((with_reducible refine r_slSS ?hc ?_); (case hc => first | exact small (by omega) | exact small (by simp; omega)))
  | ((with_reducible refine r_lenS ?hc ?_); (case hc => first | exact small (by omega) | exact small (by simp; omega)))
  | ((with_reducible refine' r_lenL ?hc ?_); (case hc => first | assumption | exact Evl.sq_of (by assumption)))
  | ((with_reducible refine' r_lenT ?hc ?_); (case hc => first | assumption | exact Evl.st_of (by assumption)))
  | ((with_reducible refine' r_ixL ?h1 ?h2 ?h3 ?_); (case h1 => first | assumption | exact Evl.sq_of (by assumption) | exact Evl.sq_of upd_same); (case h2 => first | decide | omega); (case h3 => first | exact rfl | assumption))
  | ((with_reducible refine' r_ixT ?h1 ?h2 ?h3 ?_); (case h1 => first | assumption | exact Evl.st_of (by assumption)); (case h2 => first | decide | omega); (case h3 => first | exact rfl | assumption))
  | with_reducible refine r_T ?_
  | with_reducible refine r_notNn ?_
  | with_reducible refine r_notN_int ?_
  | with_reducible refine r_notN_str ?_
  | with_reducible refine r_notN_ref ?_
  | with_reducible refine r_isNn ?_
  | with_reducible refine r_isN_int ?_
  | with_reducible refine r_isN_str ?_
  | with_reducible refine r_isN_ref ?_
  | ((with_reducible refine' r_isi ?ht ?hk ?_); (case ht => first | exact .base (.int _) | exact .base (.bl _) | exact .base (.str _) | exact .base .non | exact .base (.lst (by assumption)) | exact .base (.tup (by assumption))); (case hk => first | exact kb_int_int | exact kb_int_bool | exact kb_int_str | exact kb_int_list | exact kb_int_tuple | exact kb_bool_int | exact kb_bool_bool | exact kb_bool_str | exact kb_bool_list | exact kb_bool_tuple | exact kb_str_int | exact kb_str_bool | exact kb_str_str | exact kb_str_list | exact kb_str_tuple | exact kb_NoneType_int | exact kb_NoneType_bool | exact kb_NoneType_str | exact kb_NoneType_list | exact kb_NoneType_tuple | exact kb_list_int | exact kb_list_bool | exact kb_list_str | exact kb_list_list | exact kb_list_tuple | exact kb_tuple_int | exact kb_tuple_bool | exact kb_tuple_str | exact kb_tuple_list | exact kb_tuple_tuple))
  | with_reducible refine r_F ?_
  | with_reducible refine r_nT ?_
  | with_reducible refine r_nF ?_
  | with_reducible refine r_mko ?_
  | with_reducible refine r_xf ?_
  | ((with_reducible refine' r_sum ?hc ?_); (case hc => first | assumption | exact Evl.sq_of (by assumption)))
  | ((with_reducible refine' r_setL ?h1 ?h2 ?h3 ?_); (case h1 => first | assumption | exact upd_same); (case h2 => first | decide | omega); (case h3 => first | (show _ < _; decide) | (simp; done)))
  | with_reducible refine r_int ?_
  | with_reducible refine r_abs ?_)
local macro_rules | `(tactic| walk_at "rd") => `(tactic| repeat (walk_at "rd1"))

section
variable {P : Program} {w : World} {K : PySem.W.Frag} {mg : Str → Option Value} {base : Heap}
def spPart (C : Addr) (n : Nat) : Sp := fun vs H Q E => ∃ (l : List Nat) (i : Nat), vs = [.str (S l), .int (i : Int), .int (6 - (n : Int))] ∧ n ≤ 6 ∧ l.length ≤ 2000 ∧ i ≤ l.length ∧ OutR C l (rdPart (rdItem (innerOf n)) (l.drop i)) H Q E
theorem suf_pos {l s2 : List Nat} {j b : Nat} {r : List Nat} (F : Fine (l.drop j) (s2, b, r)) (hj : j ≤ l.length) : l.drop (l.length - s2.length) = s2 ∧ l.length - s2.length ≤ l.length ∧ j < l.length - s2.length := by
  obtain ⟨k, k1, k2, k3, _⟩ := F.suf
  have k3' : s2 = (l.drop j).drop k := k3
  rw [List.length_drop] at k2
  have e : s2.length = l.length - j - k := by rw [k3', List.length_drop, List.length_drop]
  refine ⟨?_, by omega, by omega⟩
  rw [e, show l.length - (l.length - j - k) = j + k by omega, k3', List.drop_drop]
theorem take_one (c : Nat) (r : List Nat) : (c :: r).take 1 = [c] := rfl
theorem items_stop {item : List Nat → Res} {s : List Nat} (h : goes s = false) : ∀ (f b : Nat) (r : List Nat), rdItems item f s b r = .ok (s, b, r)
  | 0, b, r => rfl
  | f + 1, b, r => by
    unfold rdItems
    rw [h]
    rfl
theorem items_go {item : List Nat → Res} {s : List Nat} {f b : Nat} {r : List Nat} (h : goes s = true) : rdItems item (f + 1) s b r = match item s with
  | .error e => .error e
  | .ok (s2, m, g) => rdItems item f s2 (b + m) (kept (b + m) (r ++ g)) := by
  show (if goes s = true then _ else _) = _
  rw [if_pos h]
  all_goals (cases item s <;> rfl)
theorem whl_le {s : List Nat} {b w : Nat} (h : whl s b = some w) : b ≤ w ∧ w ≤ 24 := by
  unfold whl at h
  split at h
  · cases h
  · split at h
    · cases h
    · split at h
      · cases h
        assumption
      · cases h
theorem row24 {b : Nat} {r : List Nat} (h : b ≤ 24 → r.length = b ∧ ∀ c ∈ r, isSg c = true) (k : 24 < b → r = []) : r.length ≤ 24 := by
  rcases Nat.lt_or_ge 24 b with z | z
  · rw [k z]; exact Nat.zero_le _
  · rw [(h z).1]; exact z
abbrev s_read_part : Stmt := topS 29
abbrev N_read_part : List Str := ["text", "at", "deep", "char", "beats", "row", "whole", "more", "signs"]
theorem sc_read_part : FnScope ["text", "at", "deep", "char", "beats", "row", "whole", "more", "signs"] ["text", "at", "deep"] (defScope s_read_part) := ⟨rfl, rfl, rfl, by decide +kernel, rfl, by decide +kernel, by decide +kernel⟩
theorem can_read_part (T : Bi mg) (F : Defd K mg "read_part" s_read_part ["text", "at", "deep"]) {n k : Nat} (hk : 3 ≤ k) (c_DIGITS : ∃ u, mg "DIGITS" = some u ∧ RelV (.str (S DGL)) u) (c_DARK : ∃ u, mg "DARK" = some u ∧ RelV (.str (S [46])) u) {A_BadText : Addr} (E_BadText : Err P w K mg base "BadText" A_BadText "at") (C_char_at : Can P w K mg base L2.CX0 1 "char_at" ["text", "at"] spChar) (C_is_sign : Can P w K mg base L2.CX0 1 "is_sign" ["thing"] spIsSign) (C_kept : Can P w K mg base L2.CX0 1 "kept" ["beats", "row"] spKept) (C_read_whole : Can P w K mg base (L2.CX P w) 4 "read_whole" ["text", "at", "beats"] (spWhole A_BadText)) (C_read_item : Can P w K mg base (L2.CX P w) (k + 1) "read_item" ["text", "at", "deep"] (spItem A_BadText n)) : Can P w K mg base (L2.CX P w) (k + 2) "read_part" ["text", "at", "deep"] (spPart A_BadText n) := by
  refine canX F sc_read_part (fun vs H Q E h => ?_) (fun f cdv A outer s H vs Q E hr h => ⟨_, (pss_cons (ps_asg (pe_tup (pa_cons pe_int (pa_cons (pe_strL [] (by decide +kernel)) pa_nil))) (pg_tup rfl (pgs_cons (pg_name (i := 4) sc_read_part.nd rfl (by first | exact Or.inl rfl | exact Or.inr rfl)) (pgs_cons (pg_name (i := 5) sc_read_part.nd rfl (by first | exact Or.inl rfl | exact Or.inr rfl)) pgs_nil))))
  (pss_cons (ps_set (i := 3) sc_read_part.nd rfl (by first | exact Or.inl rfl | exact Or.inr rfl) (pe_can C_char_at hr (by omega) rfl (pa_cons (pv 0) (pa_cons (pv 1) pa_nil))))
  (Evl.pss_cut (ps_while PassesOwn.leaving (PW.pt (pw_or (pt_val (pe_can C_is_sign hr (by omega) rfl (pa_cons (pv 3) pa_nil))) (pw_or1 (PW.pt (pw_and (pt_cmpR op_ne (pv 3) (pe_strL [] (by decide +kernel)) (nomark _)) (pw_and1 (pt_cmpR op_inSS (pv 3) (C8.pe_gc rfl c_DIGITS) (by rfl)))))))) (pss_cons (ps_asg (pe_canX C_read_item hr (by omega) rfl (passes_call (takes_of rfl rfl rfl rfl) (fun _ _ _ _ h => h)) (pa_cons (pv 0) (pa_cons (pv 1) (pa_cons (pv 2) pa_nil)))) (pg_tup rfl (pgs_cons (pg_name (i := 1) sc_read_part.nd rfl (by first | exact Or.inl rfl | exact Or.inr rfl)) (pgs_cons (pg_name (i := 7) sc_read_part.nd rfl (by first | exact Or.inl rfl | exact Or.inr rfl)) (pgs_cons (pg_name (i := 8) sc_read_part.nd rfl (by first | exact Or.inl rfl | exact Or.inr rfl)) pgs_nil)))))
  (pss_cons (ps_set (i := 4) sc_read_part.nd rfl (by first | exact Or.inl rfl | exact Or.inr rfl) (pe_op op_add (pv 4) (pv 7)))
  (pss_cons (ps_set (i := 5) sc_read_part.nd rfl (by first | exact Or.inl rfl | exact Or.inr rfl) (pe_can C_kept hr (by omega) rfl (pa_cons (pv 4) (pa_cons (pe_op op_catS (pv 5) (pv 8)) pa_nil))))
  (pss_one (ps_set (i := 3) sc_read_part.nd rfl (by first | exact Or.inl rfl | exact Or.inr rfl) (pe_can C_char_at hr (by omega) rfl (pa_cons (pv 0) (pa_cons (pv 1) pa_nil)))))))))
  (pss_cons (ps_if (pt_cmpR op_eq (pv 4) pe_int (nomark _)) (pss_one (ps_raise rfl (takes_of rfl rfl rfl rfl) (pmk_err E_BadText hr (by omega) rfl (pa_cons (pv 1) pa_nil)))) pss_nil)
  (pss_cons (ps_if (pt_cmpR op_ne (pv 3) (pe_strL [64] (by decide +kernel)) (nomark _)) (pss_one (ps_ret (pe_tup (pa_cons (pv 1) (pa_cons (pv 4) (pa_cons (pv 5) pa_nil)))))) pss_nil)
  (pss_cons (ps_asg (pe_canX C_read_whole hr (by omega) rfl (passes_call (takes_of rfl rfl rfl rfl) (fun _ _ _ _ h => h)) (pa_cons (pv 0) (pa_cons (pe_op op_add (pv 1) pe_int) (pa_cons (pv 4) pa_nil)))) (pg_tup rfl (pgs_cons (pg_name (i := 1) sc_read_part.nd rfl (by first | exact Or.inl rfl | exact Or.inr rfl)) (pgs_cons (pg_name (i := 6) sc_read_part.nd rfl (by first | exact Or.inl rfl | exact Or.inr rfl)) pgs_nil))))
  (pss_one (ps_ret (pe_tup (pa_cons (pv 1) (pa_cons (pv 6) (pa_cons (pe_op op_catS (pv 5) (pe_op op_repS (C8.pe_gc rfl c_DARK) (pe_op op_sub (pv 6) (pv 4)))) pa_nil)))))))))))), ?_⟩)
  · obtain ⟨_, _, rfl, _⟩ := h
    rfl
  · obtain ⟨l, i, rfl, hn, hl, hi, q⟩ := h
    walk_at "rd"
    refine ⟨small (by show 2 ≤ 1000000; decide), fun p0 hp0 => ?_⟩
    have ex0 := Evl.Ex.new (o := .tup [.int 0, .str (S [])]) hp0
    refine r_gtup2 (Evl.st_of upd_same) ?_
    generalize upd H p0 (.tup [.int 0, .str (S [])]) = H0 at ex0 ⊢
    walk_at "rd"
    refine ⟨l, i, rfl, by omega, ?_⟩
    walk_at "rd"
    replace q := q.ex ex0
    clear ex0 hp0
    generalize hit : rdItem (innerOf n) = item at q
    have oki : Ok item (fun s => goes s = true) := by rw [← hit]; exact ok_item (inner_ok n)
    refine r_cut (Mid := fun σ' H' => ∃ (j b : Nat) (r : List Nat) (o6 o7 o8 : Option V), σ' = [some (.str (S l)), some (.int (j : Int)), some (.int (6 - (n : Int))), some (.str (S ((l.drop j).take 1))), some (.int (b : Int)), some (.str (S r)), o6, o7, o8] ∧ Ex H0 H' ∧ j ≤ l.length ∧ Far (l.drop i) (l.drop j) b r ∧ rdItems item (l.drop i).length (l.drop i) 0 [] = .ok (l.drop j, b, r)) ?_ ?_
    · let WW : Nat → L2.St → Hp → Prop := fun m σ' H' => ∃ (j b f : Nat) (r : List Nat) (o6 o7 o8 : Option V), σ' = [some (.str (S l)), some (.int (j : Int)), some (.int (6 - (n : Int))), some (.str (S ((l.drop j).take 1))), some (.int (b : Int)), some (.str (S r)), o6, o7, o8] ∧ Ex H0 H' ∧ j ≤ l.length ∧ m + j = l.length ∧ l.length - j ≤ f ∧ Far (l.drop i) (l.drop j) b r ∧ rdItems item (l.drop i).length (l.drop i) 0 [] = rdItems item f (l.drop j) b r
      refine ⟨WW, ⟨l.length - i, i, 0, (l.drop i).length, [], _, _, _, rfl, Evl.Ex.refl _, hi, by omega, by rw [List.length_drop]; omega, far_start _, rfl⟩, fun m σ' H1 hW => ?_⟩
      obtain ⟨j, b, f', r, o6, o7, o8, rfl, ex1, hj, hm, hf, Fa, hT⟩ := hW
      have r24 : r.length ≤ 24 := row24 Fa.row Fa.non
      have jl : (l.drop j).length = l.length - j := List.length_drop
      have stop : goes (l.drop j) = false → ∃ (j2 b2 : Nat) (r2 : List Nat) (p6 p7 p8 : Option V), [some (.str (S l)), some (.int (j : Int)), some (.int (6 - (n : Int))), some (.str (S ((l.drop j).take 1))), some (.int (b : Int)), some (.str (S r)), o6, o7, o8] = [some (.str (S l)), some (.int (j2 : Int)), some (.int (6 - (n : Int))), some (.str (S ((l.drop j2).take 1))), some (.int (b2 : Int)), some (.str (S r2)), p6, p7, p8] ∧ Ex H0 H1 ∧ j2 ≤ l.length ∧ Far (l.drop i) (l.drop j2) b2 r2 ∧ rdItems item (l.drop i).length (l.drop i) 0 [] = .ok (l.drop j2, b2, r2) := fun hg =>
        ⟨j, b, r, _, _, _, rfl, ex1, hj, Fa, by rw [hT, items_stop hg]⟩
      walk_at "rd"
      cases hs : l.drop j with
      | nil =>
        rw [hs] at stop
        refine ⟨[], rfl, by decide, ?_⟩
        walk_at "rd"
        refine r_iteN (fun z => absurd rfl z) (fun _ => ?_)
        walk_at "rd"
        exact stop rfl
      | cons c rest =>
        have jp : 1 ≤ l.length - j := by
          have e := jl
          rw [hs, List.length_cons] at e
          omega
        refine ⟨[c], rfl, Nat.le_refl 1, ?_⟩
        walk_at "rd"
        refine r_iteB (fun hc => ?_) (fun hc => ?_)
        · have hg : goes (l.drop j) = true := by
            rw [hs]
            show (isSg c || isDig c) = true
            rw [show isSg c = true from hc]
            rfl
          walk_at "rd"
          obtain ⟨f2, rfl⟩ : ∃ x, f' = x + 1 := ⟨f' - 1, by omega⟩
          refine ⟨fun σ2 H2 => ∃ m', m' < m ∧ WW m' σ2 H2, fun σ2 H2 z => z, ?_⟩
          walk_at "rd"
          refine ⟨l, j, rfl, hn, hl, hj, hg, ?_⟩
          rw [hit]
          rw [items_go hg] at hT
          cases hx : item (l.drop j) with
          | error e =>
            rw [hx] at hT
            exact (q.ex ex1).bad (e := e) (by unfold rdPart; rw [hT]) rfl
          | ok g0 =>
            obtain ⟨s2, m2, g⟩ := g0
            rw [hx] at hT
            have G := oki _ _ hg hx
            obtain ⟨d1, d2, d3⟩ := suf_pos G hj
            obtain ⟨Fb, _⟩ := far_step Fa G
            have g24 : g.length ≤ 24 := row24 (fun z => G.row z) (fun z => G.non z)
            intro p H2 ex2 hp
            walk_at "rd"
            refine r_gtup3 rfl (Evl.st_of hp) ?_
            walk_at "rd"
            refine r_catS (small (by show r.length + g.length ≤ 1000000; omega)) ?_
            walk_at "rd"
            refine ⟨b + m2, r ++ g, by rw [Int.natCast_add]; rfl, ?_⟩
            walk_at "rd"
            refine ⟨l, l.length - s2.length, rfl, by omega, ?_⟩
            walk_at "rd"
            refine ⟨l.length - (l.length - s2.length), by omega, l.length - s2.length, b + m2, f2, kept (b + m2) (r ++ g), o6, some (.int (m2 : Int)), some (.str (S g)), ?_, ex1.trans ex2, d2, by omega, by omega, by rw [d1]; exact Fb, by rw [d1]; exact hT⟩
            rw [Int.natCast_add]
            rfl
        · walk_at "rd"
          refine r_iteN (fun _ => ?_) (fun z => absurd z (by simp))
          rw [take_one]
          walk_at "rd"
          rw [dgl]
          refine r_iteB (fun hd => ?_) (fun hd => ?_)
          · have hg : goes (l.drop j) = true := by
              rw [hs]
              show (isSg c || isDig c) = true
              rw [hd, Bool.or_true]
            walk_at "rd"
            obtain ⟨f2, rfl⟩ : ∃ x, f' = x + 1 := ⟨f' - 1, by omega⟩
            refine ⟨fun σ2 H2 => ∃ m', m' < m ∧ WW m' σ2 H2, fun σ2 H2 z => z, ?_⟩
            walk_at "rd"
            refine ⟨l, j, rfl, hn, hl, hj, hg, ?_⟩
            rw [hit]
            rw [items_go hg] at hT
            cases hx : item (l.drop j) with
            | error e =>
              rw [hx] at hT
              exact (q.ex ex1).bad (e := e) (by unfold rdPart; rw [hT]) rfl
            | ok g0 =>
              obtain ⟨s2, m2, g⟩ := g0
              rw [hx] at hT
              have G := oki _ _ hg hx
              obtain ⟨d1, d2, d3⟩ := suf_pos G hj
              obtain ⟨Fb, _⟩ := far_step Fa G
              have g24 : g.length ≤ 24 := row24 (fun z => G.row z) (fun z => G.non z)
              intro p H2 ex2 hp
              walk_at "rd"
              refine r_gtup3 rfl (Evl.st_of hp) ?_
              walk_at "rd"
              refine r_catS (small (by show r.length + g.length ≤ 1000000; omega)) ?_
              walk_at "rd"
              refine ⟨b + m2, r ++ g, by rw [Int.natCast_add]; rfl, ?_⟩
              walk_at "rd"
              refine ⟨l, l.length - s2.length, rfl, by omega, ?_⟩
              walk_at "rd"
              refine ⟨l.length - (l.length - s2.length), by omega, l.length - s2.length, b + m2, f2, kept (b + m2) (r ++ g), o6, some (.int (m2 : Int)), some (.str (S g)), ?_, ex1.trans ex2, d2, by omega, by omega, by rw [d1]; exact Fb, by rw [d1]; exact hT⟩
              rw [Int.natCast_add]
              rfl
          · walk_at "rd"
            rw [hs] at stop
            exact stop (by
              show (isSg c || isDig c) = false
              rw [show isSg c = false from hc, hd]
              rfl)
    · intro σ' H1 hM
      obtain ⟨j, b, r, o6, o7, o8, rfl, ex1, hj, Fa, hT⟩ := hM
      have jl : (l.drop j).length = l.length - j := List.length_drop
      have r24 : r.length ≤ 24 := row24 Fa.row Fa.non
      replace q := q.ex ex1
      walk_at "rd"
      refine r_ite (fun b0 => ?_) (fun b0 => ?_)
      · have b0' : b = 0 := by omega
        walk_at "rd"
        refine r_mk (q.bad (e := (l.drop j).length) ?_ (by rw [jl]; omega))
        unfold rdPart
        rw [hT]
        show (if b = 0 then _ else _) = _
        rw [if_pos b0']
      · have b0' : b ≠ 0 := fun z => b0 (by rw [z]; rfl)
        have hP : rdPart item (l.drop i) = match l.drop j with
          | [] => .ok (l.drop j, b, r)
          | c :: s3 => if c = 64 then rdWhole s3 b r else .ok (l.drop j, b, r) := by
          unfold rdPart
          rw [hT]
          show (if b = 0 then _ else _) = _
          rw [if_neg b0']
          all_goals (cases l.drop j <;> rfl)
        walk_at "rd"
        refine r_iteN (fun h64 => ?_) (fun h64 => ?_)
        · have ho : rdPart item (l.drop i) = .ok (l.drop j, b, r) := by
            rw [hP]
            cases hs : l.drop j with
            | nil => rfl
            | cons c s3 =>
              show (if c = 64 then _ else _) = _
              rw [if_neg (fun z => h64 (by rw [hs, z]; rfl))]
          walk_at "rd"
          refine ⟨small (by show 3 ≤ 1000000; decide), fun p hp => ?_⟩
          refine q.good ho (Evl.Ex.new hp) upd_same ?_ rfl rfl
          show (j : Int) = ((l.length - (l.drop j).length : Nat) : Int)
          rw [jl]
          omega
        · cases hs : l.drop j with
          | nil => rw [hs] at h64; cases h64
          | cons c s3 =>
            have c64 : c = 64 := by rw [hs] at h64; injection h64
            subst c64
            have e3 : l.drop (j + 1) = s3 := by
              have e : (l.drop j).drop 1 = (64 :: s3).drop 1 := by rw [hs]
              rw [List.drop_drop] at e
              exact e
            have l3 : s3.length + 1 = l.length - j := by rw [← jl, hs, List.length_cons]
            rw [hs] at hP
            have ho : rdPart item (l.drop i) = match whl s3 b with
              | none => .error s3.length
              | some w => .ok (rsOf s3, w, r ++ List.replicate (w - b) 46) := by
              rw [hP]
              refine (show _ = rdWhole s3 b r from rfl).trans ?_
              rw [rdWhole_eq]
              all_goals (cases whl s3 b <;> rfl)
            walk_at "rd"
            refine ⟨l, j + 1, b, by rw [Int.natCast_add]; rfl, by omega, fun hw => ?_, fun w p H2 hw ex2 hp => ?_⟩
            · rw [e3] at hw
              rw [hw] at ho
              exact q.bad ho (by omega)
            · rw [e3] at hw hp
              rw [hw] at ho
              obtain ⟨w1, w2⟩ := whl_le hw
              have lr := len_rs s3
              walk_at "rd"
              refine r_gtup2 (Evl.st_of hp) ?_
              walk_at "rd"
              refine r_repS (by omega) (by omega) (small (by show 1 * _ ≤ 1000000; omega)) ?_
              rw [show ((w : Int) - (b : Int)).toNat = w - b by omega, flat_one]
              refine r_catS (small (by rw [List.length_replicate]; omega)) ?_
              walk_at "rd"
              refine ⟨small (by show 3 ≤ 1000000; decide), fun p2 hp2 => ?_⟩
              refine q.good ho (ex2.trans (Evl.Ex.new hp2)) upd_same ?_ rfl rfl
              show ((j + 1 + (dsOf s3).length : Nat) : Int) = ((l.length - (rsOf s3).length : Nat) : Int)
              omega
end
end Fk

set_option Elab.async false
set_option linter.all false
set_option maxRecDepth 100000
set_option maxHeartbeats 4000000
namespace Fk
open PySem PySem.Spec PyProof.Rows L2 Fg Rt
local macro_rules | `(tactic| walk_at "rd1") => `(tactic| first
  | with_reducible refine r_seq ?_
  | with_reducible refine r_asg ?_
  | with_reducible refine r_gname ?_
  | with_reducible refine r_gsub ?_
  | with_reducible refine r_ret ?_
  | with_reducible refine r_retN ?_
  | with_reducible refine r_next ?_
  | with_reducible refine r_drop ?_
  | with_reducible refine r_ifS ?_
  | with_reducible refine r_if ?_
  | with_reducible refine r_par ?_
  | with_reducible refine r_pair ?_
  | with_reducible refine r_test ?_
  | with_reducible refine r_tB ?_
  | with_reducible refine r_not ?_
  | with_reducible refine r_and ?_
  | with_reducible refine r_or ?_
  | with_reducible refine r_andV ?_
  | with_reducible refine r_orV ?_
  | with_reducible refine r_notV ?_
  | with_reducible refine r_nil ?_
  | with_reducible refine r_cons ?_
  | with_reducible refine r_call ?_
  | with_reducible refine r_callS ?_
  | with_reducible refine r_cb ?_
  | with_reducible refine r_then ?_
  | with_reducible refine r_tup ?_
  | with_reducible refine r_lst ?_
  | with_reducible refine r_sl ?_
  | with_reducible refine r_nopart ?_
  | with_reducible refine r_part ?_
  | with_reducible refine r_lcR1 ?_
  | with_reducible refine r_lcR2 ?_
  | with_reducible refine r_lcL ?_
  | with_reducible refine r_lcT ?_
  | with_reducible refine r_forR1 ?_
  | with_reducible refine r_forR2 ?_
  | with_reducible refine r_forL ?_
  | with_reducible refine r_forT ?_
  | with_reducible refine r_forE ?_
  | with_reducible refine r_strE ?_
  | ((with_reducible refine r_rng1 ?hc ?_); (case hc => omega))
  | ((with_reducible refine r_rng2 ?hc ?_); (case hc => omega))
  | ((with_reducible refine' r_refL ?hc ?_); (case hc => first | assumption | exact Evl.sq_of (by assumption)))
  | ((with_reducible refine' r_refT ?hc ?_); (case hc => first | assumption | exact Evl.st_of (by assumption)))
  | with_reducible refine r_op ?_
  | with_reducible refine r_un ?_
  | with_reducible refine r_chain ?_
  | ((with_reducible refine' r_var ?hv ?_); (case hv => exact rfl))
  | with_reducible refine r_cS ?_
  | with_reducible refine r_cs ?_
  | with_reducible refine r_c ?_
  | with_reducible refine r_yes ?_
  | with_reducible refine r_bm ?_
  | with_reducible refine r_bl ?_
  | with_reducible refine r_in ?_
  | with_reducible refine r_ty ?_
  | with_reducible refine r_I0 ?_
  | ((with_reducible refine r_I ?hc ?_); (case hc => first | assumption | (show (0 : Int) < _; decide) | exact Or.inr ⟨by decide, by decide⟩ | exact Or.inr ⟨by omega, by omega⟩ | exact Or.inl ⟨by decide, by decide⟩ | exact (show CDivW _ _ from ⟨by decide, by decide +kernel⟩) | exact (show CPowW _ _ from ⟨by decide, by decide +kernel⟩) | (show (0 : Int) < _; omega)))
  | with_reducible refine r_U ?_
  | with_reducible refine r_eqI ?_
  | with_reducible refine r_neI ?_
  | with_reducible refine r_eqS ?_
  | with_reducible refine r_neS ?_
  | with_reducible refine r_eqB ?_
  | with_reducible refine r_neB ?_
  | with_reducible refine r_niS ?_
  | with_reducible refine r_inSS ?_
  | ((with_reducible refine r_slSS ?hc ?_); (case hc => first | exact small (by omega) | exact small (by simp; omega)))
  | ((with_reducible refine r_lenS ?hc ?_); (case hc => first | exact small (by omega) | exact small (by simp; omega)))
  | ((with_reducible refine' r_lenL ?hc ?_); (case hc => first | assumption | exact Evl.sq_of (by assumption)))
  | ((with_reducible refine' r_lenT ?hc ?_); (case hc => first | assumption | exact Evl.st_of (by assumption)))
  | ((with_reducible refine' r_ixL ?h1 ?h2 ?h3 ?_); (case h1 => first | assumption | exact Evl.sq_of (by assumption) | exact Evl.sq_of upd_same); (case h2 => first | decide | omega); (case h3 => first | exact rfl | assumption))
  | ((with_reducible refine' r_ixT ?h1 ?h2 ?h3 ?_); (case h1 => first | assumption | exact Evl.st_of (by assumption)); (case h2 => first | decide | omega); (case h3 => first | exact rfl | assumption))
  | with_reducible refine r_T ?_
  | with_reducible refine r_notNn ?_
  | with_reducible refine r_notN_int ?_
  | with_reducible refine r_notN_str ?_
  | with_reducible refine r_notN_ref ?_
  | with_reducible refine r_isNn ?_
  | with_reducible refine r_isN_int ?_
  | with_reducible refine r_isN_str ?_
  | with_reducible refine r_isN_ref ?_
  | ((with_reducible refine' r_isi ?ht ?hk ?_); (case ht => first | exact .base (.int _) | exact .base (.bl _) | exact .base (.str _) | exact .base .non | exact .base (.lst (by assumption)) | exact .base (.tup (by assumption))); (case hk => first | exact kb_int_int | exact kb_int_bool | exact kb_int_str | exact kb_int_list | exact kb_int_tuple | exact kb_bool_int | exact kb_bool_bool | exact kb_bool_str | exact kb_bool_list | exact kb_bool_tuple | exact kb_str_int | exact kb_str_bool | exact kb_str_str | exact kb_str_list | exact kb_str_tuple | exact kb_NoneType_int | exact kb_NoneType_bool | exact kb_NoneType_str | exact kb_NoneType_list | exact kb_NoneType_tuple | exact kb_list_int | exact kb_list_bool | exact kb_list_str | exact kb_list_list | exact kb_list_tuple | exact kb_tuple_int | exact kb_tuple_bool | exact kb_tuple_str | exact kb_tuple_list | exact kb_tuple_tuple))
  | with_reducible refine r_F ?_
  | with_reducible refine r_nT ?_
  | with_reducible refine r_nF ?_
  | with_reducible refine r_mko ?_
  | with_reducible refine r_xf ?_
  | ((with_reducible refine' r_sum ?hc ?_); (case hc => first | assumption | exact Evl.sq_of (by assumption)))
  | ((with_reducible refine' r_setL ?h1 ?h2 ?h3 ?_); (case h1 => first | assumption | exact upd_same); (case h2 => first | decide | omega); (case h3 => first | (show _ < _; decide) | (simp; done)))
  | with_reducible refine r_int ?_
  | with_reducible refine r_abs ?_)
local macro_rules | `(tactic| walk_at "rd") => `(tactic| repeat (walk_at "rd1"))

section
variable {P : Program} {w : World} {K : PySem.W.Frag} {mg : Str → Option Value} {base : Heap}
theorem ok_rdPart (n : Nat) : Ok (rdPart (rdItem (innerOf n))) (fun _ => True) := ok_part (ok_item (inner_ok n))
theorem fine_row {s : List Nat} {g : Got} (F : Fine s g) (h : s.length ≤ 2000) : RowOk g.2.1 g.2.2 := by
  obtain ⟨k, k1, k2, k3, k4⟩ := F.suf
  exact ⟨F.pos, big_lt (by omega) k4, F.row, F.non⟩
theorem join_stop {part : List Nat → Res} {s : List Nat} (h : s.take 1 ≠ [38]) : ∀ (f b : Nat) (r : List Nat), rdJoin part f s b r = .ok (s, b, r)
  | 0, b, r => rfl
  | f + 1, b, r => by
    unfold rdJoin
    cases s with
    | nil => rfl
    | cons c s2 =>
      show (if c = 38 then _ else _) = _
      rw [if_neg (fun z => h (by rw [z]; rfl))]
theorem join_go {part : List Nat → Res} {s2 : List Nat} {f b : Nat} {r : List Nat} : rdJoin part (f + 1) (38 :: s2) b r = match part s2 with
  | .error e => .error e
  | .ok (s3, b2, r2) => rdJoin part f s3 (Nat.lcm b b2) (tog b r b2 r2) := by
  have h : ∀ c : Nat, c = 38 → rdJoin part (f + 1) (c :: s2) b r = match part s2 with
      | .error e => .error e
      | .ok (s3, b2, r2) => rdJoin part f s3 (Nat.lcm b b2) (tog b r b2 r2) := by
    intro c hc
    show (if c = 38 then _ else _) = _
    rw [if_pos hc]
    all_goals (cases part s2 <;> rfl)
  exact h 38 rfl
theorem parts_eq {part : List Nat → Res} {top : Bool} {s : List Nat} {g1 g : Got} (h1 : part s = .ok g1) (h2 : rdJoin part g1.1.length g1.1 g1.2.1 g1.2.2 = .ok g) : rdParts part top s = if g.1.take 1 = endOf top then .ok g else .error g.1.length := by
  unfold rdParts
  rw [h1]
  obtain ⟨s1, b1, r1⟩ := g1
  show (match rdJoin part s1.length s1 b1 r1 with
    | .error e => Except.error e
    | .ok (s3, b3, r3) => if s3.take 1 = endOf top then .ok (s3, b3, r3) else .error s3.length) = _
  rw [show rdJoin part s1.length s1 b1 r1 = .ok g from h2]
theorem parts_bad1 {part : List Nat → Res} {top : Bool} {s : List Nat} {e : Nat} (h1 : part s = .error e) : rdParts part top s = .error e := by
  unfold rdParts
  rw [h1]
theorem parts_bad2 {part : List Nat → Res} {top : Bool} {s : List Nat} {g1 : Got} {e : Nat} (h1 : part s = .ok g1) (h2 : rdJoin part g1.1.length g1.1 g1.2.1 g1.2.2 = .error e) : rdParts part top s = .error e := by
  unfold rdParts
  rw [h1]
  obtain ⟨s1, b1, r1⟩ := g1
  show (match rdJoin part s1.length s1 b1 r1 with
    | .error e => Except.error e
    | .ok (s3, b3, r3) => if s3.take 1 = endOf top then .ok (s3, b3, r3) else .error s3.length) = _
  rw [show rdJoin part s1.length s1 b1 r1 = .error e from h2]
abbrev s_read_parts : Stmt := topS 28
abbrev N_read_parts : List Str := ["text", "at", "deep", "last", "beats", "row", "other_beats", "other"]
theorem sc_read_parts : FnScope ["text", "at", "deep", "last", "beats", "row", "other_beats", "other"] ["text", "at", "deep"] (defScope s_read_parts) := ⟨rfl, rfl, rfl, by decide +kernel, rfl, by decide +kernel, by decide +kernel⟩
theorem can_read_parts (T : Bi mg) (F : Defd K mg "read_parts" s_read_parts ["text", "at", "deep"]) {n k : Nat} (hk : 3 ≤ k) (hn : n ≤ 6) {A_BadText : Addr} (E_BadText : Err P w K mg base "BadText" A_BadText "at") (C_char_at : Can P w K mg base L2.CX0 1 "char_at" ["text", "at"] spChar) (C_together : Can P w K mg base L2.CX0 1 "together" ["beats", "row", "other_beats", "other"] spTogether) (C_read_part : Can P w K mg base (L2.CX P w) (k + 2) "read_part" ["text", "at", "deep"] (spPart A_BadText n)) : Can P w K mg base (L2.CX P w) (k + 3) "read_parts" ["text", "at", "deep"] (spParts A_BadText n) := by
  refine canX F sc_read_parts (fun vs H Q E h => ?_) (fun f cdv A outer s H vs Q E hr h => ⟨_, (pss_cons (ps_asg (pe_canX C_read_part hr (by omega) rfl (passes_call (takes_of rfl rfl rfl rfl) (fun _ _ _ _ h => h)) (pa_cons (pv 0) (pa_cons (pv 1) (pa_cons (pv 2) pa_nil)))) (pg_tup rfl (pgs_cons (pg_name (i := 1) sc_read_parts.nd rfl (by first | exact Or.inl rfl | exact Or.inr rfl)) (pgs_cons (pg_name (i := 4) sc_read_parts.nd rfl (by first | exact Or.inl rfl | exact Or.inr rfl)) (pgs_cons (pg_name (i := 5) sc_read_parts.nd rfl (by first | exact Or.inl rfl | exact Or.inr rfl)) pgs_nil)))))
  (Evl.pss_cut (ps_while PassesOwn.leaving (pt_cmpR op_eq (pe_can C_char_at hr (by omega) rfl (pa_cons (pv 0) (pa_cons (pv 1) pa_nil))) (pe_strL [38] (by decide +kernel)) (nomark _)) (pss_cons (ps_asg (pe_canX C_read_part hr (by omega) rfl (passes_call (takes_of rfl rfl rfl rfl) (fun _ _ _ _ h => h)) (pa_cons (pv 0) (pa_cons (pe_op op_add (pv 1) pe_int) (pa_cons (pv 2) pa_nil)))) (pg_tup rfl (pgs_cons (pg_name (i := 1) sc_read_parts.nd rfl (by first | exact Or.inl rfl | exact Or.inr rfl)) (pgs_cons (pg_name (i := 6) sc_read_parts.nd rfl (by first | exact Or.inl rfl | exact Or.inr rfl)) (pgs_cons (pg_name (i := 7) sc_read_parts.nd rfl (by first | exact Or.inl rfl | exact Or.inr rfl)) pgs_nil)))))
  (pss_one (ps_asg (pe_can C_together hr (by omega) rfl (pa_cons (pv 4) (pa_cons (pv 5) (pa_cons (pv 6) (pa_cons (pv 7) pa_nil))))) (pg_tup rfl (pgs_cons (pg_name (i := 4) sc_read_parts.nd rfl (by first | exact Or.inl rfl | exact Or.inr rfl)) (pgs_cons (pg_name (i := 5) sc_read_parts.nd rfl (by first | exact Or.inl rfl | exact Or.inr rfl)) pgs_nil)))))))
  (pss_cons (ps_set (i := 3) sc_read_parts.nd rfl (by first | exact Or.inl rfl | exact Or.inr rfl) (pe_ifExp (pt_cmpR op_eq (pv 2) pe_int (nomark _)) (pe_strL [] (by decide +kernel)) (pe_strL [41] (by decide +kernel))))
  (pss_cons (ps_if (pt_cmpR op_ne (pe_can C_char_at hr (by omega) rfl (pa_cons (pv 0) (pa_cons (pv 1) pa_nil))) (pv 3) (nomark _)) (pss_one (ps_raise rfl (takes_of rfl rfl rfl rfl) (pmk_err E_BadText hr (by omega) rfl (pa_cons (pv 1) pa_nil)))) pss_nil)
  (pss_one (ps_ret (pe_tup (pa_cons (pv 1) (pa_cons (pv 4) (pa_cons (pv 5) pa_nil)))))))))), ?_⟩)
  · obtain ⟨_, _, rfl, _⟩ := h
    rfl
  · obtain ⟨l, i, rfl, hl, hi, q⟩ := h
    rw [rdAt_eq] at q
    have okp := ok_rdPart n
    walk_at "rd"
    refine ⟨l, i, rfl, hn, hl, hi, ?_⟩
    generalize hpart : rdPart (rdItem (innerOf n)) = part at q okp ⊢
    generalize ht : decide (n = 6) = top at q
    cases hx : part (l.drop i) with
    | error e => exact q.bad (parts_bad1 hx) rfl
    | ok g0 =>
      obtain ⟨s1, b1, r1⟩ := g0
      have F1 := okp _ _ trivial hx
      obtain ⟨d1, d2, d3⟩ := suf_pos F1 hi
      have jl0 : (l.drop i).length ≤ 2000 := by rw [List.length_drop]; omega
      intro p0 H0 ex0 hp0
      replace q := q.ex ex0
      walk_at "rd"
      refine r_gtup3 rfl (Evl.st_of hp0) ?_
      walk_at "rd"
      refine r_cut (Mid := fun σ' H' => ∃ (j b : Nat) (r : List Nat) (o3 o6 o7 : Option V), σ' = [some (.str (S l)), some (.int (j : Int)), some (.int (6 - (n : Int))), o3, some (.int (b : Int)), some (.str (S r)), o6, o7] ∧ Ex H0 H' ∧ j ≤ l.length ∧ Fine (l.drop i) (l.drop j, b, r) ∧ rdJoin part s1.length s1 b1 r1 = .ok (l.drop j, b, r)) ?_ ?_
      · let WW : Nat → L2.St → Hp → Prop := fun m σ' H' => ∃ (j b f : Nat) (r : List Nat) (o3 o6 o7 : Option V), σ' = [some (.str (S l)), some (.int (j : Int)), some (.int (6 - (n : Int))), o3, some (.int (b : Int)), some (.str (S r)), o6, o7] ∧ Ex H0 H' ∧ j ≤ l.length ∧ m + j = l.length ∧ l.length - j ≤ f ∧ Fine (l.drop i) (l.drop j, b, r) ∧ rdJoin part s1.length s1 b1 r1 = rdJoin part f (l.drop j) b r
        refine ⟨WW, ⟨l.length - (l.length - s1.length), l.length - s1.length, b1, s1.length, r1, none, none, none, rfl, Evl.Ex.refl _, d2, by omega, by omega, by rw [d1]; exact F1, by rw [d1]⟩, fun m σ' H1 hW => ?_⟩
        obtain ⟨j, b, f', r, o3, o6, o7, rfl, ex1, hj, hm, hf, Fa, hT⟩ := hW
        walk_at "rd"
        refine ⟨l, j, rfl, by omega, ?_⟩
        walk_at "rd"
        have jl : (l.drop j).length = l.length - j := List.length_drop
        refine r_ite (fun h38 => ?_) (fun h38 => ?_)
        · cases hs : l.drop j with
          | nil => rw [hs] at h38; cases h38
          | cons c s2 =>
            have c38 : c = 38 := by rw [hs] at h38; injection h38
            subst c38
            have e2 : l.drop (j + 1) = s2 := by
              have e : (l.drop j).drop 1 = (38 :: s2).drop 1 := by rw [hs]
              rw [List.drop_drop] at e
              exact e
            rw [hs, List.length_cons] at jl
            rw [hs] at hT Fa
            obtain ⟨f2, rfl⟩ : ∃ x, f' = x + 1 := ⟨f' - 1, by omega⟩
            rw [join_go] at hT
            refine ⟨fun σ2 H2 => ∃ m', m' < m ∧ WW m' σ2 H2, fun σ2 H2 z => z, ?_⟩
            walk_at "rd"
            refine ⟨l, j + 1, by rw [Int.natCast_add]; rfl, hn, hl, by omega, ?_⟩
            rw [hpart, e2]
            cases hy : part s2 with
            | error e =>
              rw [hy] at hT
              exact (q.ex ex1).bad (parts_bad2 (g1 := (s1, b1, r1)) hx hT) rfl
            | ok g2 =>
              obtain ⟨s3, b2, r2⟩ := g2
              rw [hy] at hT
              have G := okp _ _ trivial hy
              have Fj := fine_join Fa G
              have G' : Fine (l.drop (j + 1)) (s3, b2, r2) := by rw [e2]; exact G
              obtain ⟨e4, e5, e6⟩ := suf_pos G' (by omega)
              have ra := fine_row Fa jl0
              have rb := fine_row G (by omega)
              intro p1 H2 ex2 hp1
              walk_at "rd"
              refine r_gtup3 rfl (Evl.st_of hp1) ?_
              walk_at "rd"
              refine ⟨b, r, b2, r2, rfl, ra, rb, fun p2 H3 ex3 hp2 => ?_⟩
              walk_at "rd"
              refine r_gtup2 (Evl.st_of hp2) ?_
              walk_at "rd"
              exact ⟨l.length - (l.length - s3.length), by omega, l.length - s3.length, Nat.lcm b b2, f2, tog b r b2 r2, o3, some (.int (b2 : Int)), some (.str (S r2)), rfl, (ex1.trans ex2).trans ex3, e5, by omega, by omega, by rw [e4]; exact Fj, by rw [e4]; exact hT⟩
        · exact ⟨j, b, r, o3, o6, o7, rfl, ex1, hj, Fa, by rw [hT, join_stop h38]⟩
      · intro σ' H1 hM
        obtain ⟨j, b, r, o3, o6, o7, rfl, ex1, hj, Fa, hT⟩ := hM
        have ho := parts_eq (top := top) (g1 := (s1, b1, r1)) hx hT
        replace q := q.ex ex1
        have jl : (l.drop j).length = l.length - j := List.length_drop
        walk_at "rd"
        refine r_ite (fun h6 => ?_) (fun h6 => ?_)
        · have et : top = true := by rw [← ht]; exact decide_eq_true (by omega)
          rw [et] at ho q
          walk_at "rd"
          refine ⟨l, j, rfl, by omega, ?_⟩
          walk_at "rd"
          refine r_iteN (fun hE => ?_) (fun hE => ?_)
          · walk_at "rd"
            refine r_mk (q.bad (ho.trans (if_neg ?_)) ?_)
            · exact hE
            · show (j : Int) = ((l.length - (l.drop j).length : Nat) : Int)
              rw [jl]
              omega
          · walk_at "rd"
            refine ⟨small (by show 3 ≤ 1000000; decide), fun p hp => ?_⟩
            refine q.good (ho.trans (if_pos hE)) (Evl.Ex.new hp) upd_same ?_ rfl rfl
            show (j : Int) = ((l.length - (l.drop j).length : Nat) : Int)
            rw [jl]
            omega
        · have et : top = false := by rw [← ht]; exact decide_eq_false (by omega)
          rw [et] at ho q
          walk_at "rd"
          refine ⟨l, j, rfl, by omega, ?_⟩
          walk_at "rd"
          refine r_iteN (fun hE => ?_) (fun hE => ?_)
          · walk_at "rd"
            refine r_mk (q.bad (ho.trans (if_neg ?_)) ?_)
            · exact hE
            · show (j : Int) = ((l.length - (l.drop j).length : Nat) : Int)
              rw [jl]
              omega
          · walk_at "rd"
            refine ⟨small (by show 3 ≤ 1000000; decide), fun p hp => ?_⟩
            refine q.good (ho.trans (if_pos hE)) (Evl.Ex.new hp) upd_same ?_ rfl rfl
            show (j : Int) = ((l.length - (l.drop j).length : Nat) : Int)
            rw [jl]
            omega

theorem can_below {k n : Nat} {A_BadText : Addr} (F : Defd K mg "read_parts" s_read_parts ["text", "at", "deep"]) (hn : n = 0) : Can P w K mg base (L2.CX P w) (k + 1) "read_parts" ["text", "at", "deep"] (spBelow A_BadText n) := by
  subst hn
  exact canX F sc_read_parts (fun vs H Q E h => h.elim) (fun f cdv A outer s H vs Q E hr h => h.elim)
theorem can_reader (T : Bi mg) (F1 : Defd K mg "read_item" s_read_item ["text", "at", "deep"]) (F2 : Defd K mg "read_part" s_read_part ["text", "at", "deep"]) (F3 : Defd K mg "read_parts" s_read_parts ["text", "at", "deep"]) {A_BadText : Addr} (E_BadText : Err P w K mg base "BadText" A_BadText "at") (c_LEAST_TIMES : ∃ u, mg "LEAST_TIMES" = some u ∧ RelV (.int 2) u) (c_MOST_TIMES : ∃ u, mg "MOST_TIMES" = some u ∧ RelV (.int 24) u) (c_MOST_DEEP : ∃ u, mg "MOST_DEEP" = some u ∧ RelV (.int 6) u) (c_MOST_BEATS : ∃ u, mg "MOST_BEATS" = some u ∧ RelV (.int 24) u) (c_DIGITS : ∃ u, mg "DIGITS" = some u ∧ RelV (.str (S DGL)) u) (c_DARK : ∃ u, mg "DARK" = some u ∧ RelV (.str (S [46])) u) (C_end_of_run : Can P w K mg base L2.CX0 1 "end_of_run" ["text", "at"] spEnd) (C_size_of_run : Can P w K mg base (L2.CX P w) 3 "size_of_run" ["text", "at", "end"] (spSize A_BadText)) (C_char_at : Can P w K mg base L2.CX0 1 "char_at" ["text", "at"] spChar) (C_is_sign : Can P w K mg base L2.CX0 1 "is_sign" ["thing"] spIsSign) (C_kept : Can P w K mg base L2.CX0 1 "kept" ["beats", "row"] spKept) (C_together : Can P w K mg base L2.CX0 1 "together" ["beats", "row", "other_beats", "other"] spTogether) (C_read_whole : Can P w K mg base (L2.CX P w) 4 "read_whole" ["text", "at", "beats"] (spWhole A_BadText)) :
    ∀ n : Nat, n ≤ 6 → Can P w K mg base (L2.CX P w) (6 + 3 * n) "read_parts" ["text", "at", "deep"] (spParts A_BadText n) := by
  have step : ∀ (n k : Nat), 3 ≤ k → n ≤ 6 → Can P w K mg base (L2.CX P w) k "read_parts" ["text", "at", "deep"] (spBelow A_BadText n) → Can P w K mg base (L2.CX P w) (k + 3) "read_parts" ["text", "at", "deep"] (spParts A_BadText n) := by
    intro n k hk hn C_read_parts
    have C_read_item : Can P w K mg base (L2.CX P w) (k + 1) "read_item" ["text", "at", "deep"] (spItem A_BadText n) := by
      apply can_read_item T F1 <;> assumption
    have C_read_part : Can P w K mg base (L2.CX P w) (k + 2) "read_part" ["text", "at", "deep"] (spPart A_BadText n) := by
      apply can_read_part T F2 <;> assumption
    apply can_read_parts T F3 <;> assumption
  intro n
  induction n with
  | zero => intro h; exact step 0 3 (by decide) h (can_below F3 rfl)
  | succ n ih =>
    intro h
    have e : 6 + 3 * (n + 1) = 6 + 3 * n + 3 := by omega
    rw [e]
    exact step (n + 1) (6 + 3 * n) (by omega) h (ih (by omega))
end
end Fk

set_option Elab.async false
set_option linter.all false
set_option maxRecDepth 100000
set_option maxHeartbeats 4000000
namespace Fk
open PySem PySem.Spec PyProof.Rows L2 Fg Rt
local macro_rules | `(tactic| walk_at "rd1") => `(tactic| first
  | with_reducible refine r_seq ?_
  | with_reducible refine r_asg ?_
  | with_reducible refine r_gname ?_
  | with_reducible refine r_gsub ?_
  | with_reducible refine r_ret ?_
  | with_reducible refine r_retN ?_
  | with_reducible refine r_next ?_
  | with_reducible refine r_drop ?_
  | with_reducible refine r_ifS ?_
  | with_reducible refine r_if ?_
  | with_reducible refine r_par ?_
  | with_reducible refine r_pair ?_
  | with_reducible refine r_test ?_
  | with_reducible refine r_tB ?_
  | with_reducible refine r_not ?_
  | with_reducible refine r_and ?_
  | with_reducible refine r_or ?_
  | with_reducible refine r_andV ?_
  | with_reducible refine r_orV ?_
  | with_reducible refine r_notV ?_
  | with_reducible refine r_nil ?_
  | with_reducible refine r_cons ?_
  | with_reducible refine r_call ?_
  | with_reducible refine r_callS ?_
  | with_reducible refine r_cb ?_
  | with_reducible refine r_then ?_
  | with_reducible refine r_tup ?_
  | with_reducible refine r_lst ?_
  | with_reducible refine r_sl ?_
  | with_reducible refine r_nopart ?_
  | with_reducible refine r_part ?_
  | with_reducible refine r_lcR1 ?_
  | with_reducible refine r_lcR2 ?_
  | with_reducible refine r_lcL ?_
  | with_reducible refine r_lcT ?_
  | with_reducible refine r_forR1 ?_
  | with_reducible refine r_forR2 ?_
  | with_reducible refine r_forL ?_
  | with_reducible refine r_forT ?_
  | with_reducible refine r_forE ?_
  | with_reducible refine r_strE ?_
  | ((with_reducible refine r_rng1 ?hc ?_); (case hc => omega))
  | ((with_reducible refine r_rng2 ?hc ?_); (case hc => omega))
  | ((with_reducible refine' r_refL ?hc ?_); (case hc => first | assumption | exact Evl.sq_of (by assumption)))
  | ((with_reducible refine' r_refT ?hc ?_); (case hc => first | assumption | exact Evl.st_of (by assumption)))
  | with_reducible refine r_op ?_
  | with_reducible refine r_un ?_
  | with_reducible refine r_chain ?_
  | ((with_reducible refine' r_var ?hv ?_); (case hv => exact rfl))
  | with_reducible refine r_cS ?_
  | with_reducible refine r_cs ?_
  | with_reducible refine r_c ?_
  | with_reducible refine r_yes ?_
  | with_reducible refine r_bm ?_
  | with_reducible refine r_bl ?_
  | with_reducible refine r_in ?_
  | with_reducible refine r_ty ?_
  | with_reducible refine r_I0 ?_
  | ((with_reducible refine r_I ?hc ?_); (case hc => first | assumption | (show (0 : Int) < _; decide) | exact Or.inr ⟨by decide, by decide⟩ | exact Or.inr ⟨by omega, by omega⟩ | exact Or.inl ⟨by decide, by decide⟩ | exact (show CDivW _ _ from ⟨by decide, by decide +kernel⟩) | exact (show CPowW _ _ from ⟨by decide, by decide +kernel⟩) | (show (0 : Int) < _; omega)))
  | with_reducible refine r_U ?_
  | with_reducible refine r_eqI ?_
  | with_reducible refine r_neI ?_
  | with_reducible refine r_eqS ?_
  | with_reducible refine r_neS ?_
  | with_reducible refine r_eqB ?_
  | with_reducible refine r_neB ?_
  | with_reducible refine r_niS ?_
  | with_reducible refine r_inSS ?_
  | ((with_reducible refine r_slSS ?hc ?_); (case hc => first | exact small (by omega) | exact small (by simp; omega)))
  | ((with_reducible refine r_lenS ?hc ?_); (case hc => first | exact small (by omega) | exact small (by simp; omega)))
  | ((with_reducible refine' r_lenL ?hc ?_); (case hc => first | assumption | exact Evl.sq_of (by assumption)))
  | ((with_reducible refine' r_lenT ?hc ?_); (case hc => first | assumption | exact Evl.st_of (by assumption)))
  | ((with_reducible refine' r_ixL ?h1 ?h2 ?h3 ?_); (case h1 => first | assumption | exact Evl.sq_of (by assumption) | exact Evl.sq_of upd_same); (case h2 => first | decide | omega); (case h3 => first | exact rfl | assumption))
  | ((with_reducible refine' r_ixT ?h1 ?h2 ?h3 ?_); (case h1 => first | assumption | exact Evl.st_of (by assumption)); (case h2 => first | decide | omega); (case h3 => first | exact rfl | assumption))
  | with_reducible refine r_T ?_
  | with_reducible refine r_notNn ?_
  | with_reducible refine r_notN_int ?_
  | with_reducible refine r_notN_str ?_
  | with_reducible refine r_notN_ref ?_
  | with_reducible refine r_isNn ?_
  | with_reducible refine r_isN_int ?_
  | with_reducible refine r_isN_str ?_
  | with_reducible refine r_isN_ref ?_
  | ((with_reducible refine' r_isi ?ht ?hk ?_); (case ht => first | exact .base (.int _) | exact .base (.bl _) | exact .base (.str _) | exact .base .non | exact .base (.lst (by assumption)) | exact .base (.tup (by assumption))); (case hk => first | exact kb_int_int | exact kb_int_bool | exact kb_int_str | exact kb_int_list | exact kb_int_tuple | exact kb_bool_int | exact kb_bool_bool | exact kb_bool_str | exact kb_bool_list | exact kb_bool_tuple | exact kb_str_int | exact kb_str_bool | exact kb_str_str | exact kb_str_list | exact kb_str_tuple | exact kb_NoneType_int | exact kb_NoneType_bool | exact kb_NoneType_str | exact kb_NoneType_list | exact kb_NoneType_tuple | exact kb_list_int | exact kb_list_bool | exact kb_list_str | exact kb_list_list | exact kb_list_tuple | exact kb_tuple_int | exact kb_tuple_bool | exact kb_tuple_str | exact kb_tuple_list | exact kb_tuple_tuple))
  | with_reducible refine r_F ?_
  | with_reducible refine r_nT ?_
  | with_reducible refine r_nF ?_
  | with_reducible refine r_mko ?_
  | with_reducible refine r_xf ?_
  | ((with_reducible refine' r_sum ?hc ?_); (case hc => first | assumption | exact Evl.sq_of (by assumption)))
  | ((with_reducible refine' r_setL ?h1 ?h2 ?h3 ?_); (case h1 => first | assumption | exact upd_same); (case h2 => first | decide | omega); (case h3 => first | (show _ < _; decide) | (simp; done)))
  | with_reducible refine r_int ?_
  | with_reducible refine r_abs ?_)
local macro_rules | `(tactic| walk_at "rd") => `(tactic| repeat (walk_at "rd1"))

section
variable {P : Program} {w : World} {K : PySem.W.Frag} {mg : Str → Option Value} {base : Heap}
/-- what read_round tells -/
def OutRound (C CT : Addr) (l : List Nat) (H : Hp) (Q : VK) (E : XK) : Prop := match rdAt 6 true l with
  | .error e => Wish C "at" (.int ((l.length - e : Nat) : Int)) H E
  | .ok g => (g.2.1 ≤ 24 → ∀ H', Ex H H' → Q (.str (S g.2.2)) H') ∧ (24 < g.2.1 → Wish CT "number" (.int (g.2.1 : Int)) H E)
def spReadRound (K : PySem.W.Frag) (C CT : Addr) : Sp := fun vs H Q E => ∃ x, vs = [x] ∧ ((∃ m, TyX K H x (.type m) ∧ kitB m "str" = some false ∧ Wish C "at" (.int (-1)) H E) ∨ ∃ l, x = .str (S l) ∧ l.length ≤ 2000 ∧ OutRound C CT l H Q E)
abbrev s_read_round : Stmt := topS 22
abbrev N_read_round : List Str := ["text", "_", "beats", "row"]
theorem sc_read_round : FnScope ["text", "_", "beats", "row"] ["text"] (defScope s_read_round) := ⟨rfl, rfl, rfl, by decide +kernel, rfl, by decide +kernel, by decide +kernel⟩
theorem can_read_round (T : Bi mg) (F : Defd K mg "read_round" s_read_round ["text"]) (c_MOST_BEATS : ∃ u, mg "MOST_BEATS" = some u ∧ RelV (.int 24) u) {A_BadText : Addr} (E_BadText : Err P w K mg base "BadText" A_BadText "at") {A_TooLong : Addr} (E_TooLong : Err P w K mg base "TooLong" A_TooLong "number") (C_read_parts : Can P w K mg base (L2.CX P w) 24 "read_parts" ["text", "at", "deep"] (spParts A_BadText 6)) : Can P w K mg base (L2.CX P w) 25 "read_round" ["text"] (spReadRound K A_BadText A_TooLong) := by
  refine canX F sc_read_round (fun vs H Q E h => ?_) (fun f cdv A outer s H vs Q E hr h => ⟨_, (pss_cons (ps_if (pt_not (pt_val (pe_callB call_isi (by rfl) T.b_isinstance boot_isinstance (pa_cons (pv 0) (pa_cons (pe_bltn (v := .ty "str") (by rfl) T.b_str boot_str rfl) pa_nil))))) (pss_one (ps_raise rfl (takes_of rfl rfl rfl rfl) (pmk_err E_BadText hr (by decide) rfl (pa_cons (pe_un un_neg pe_int) pa_nil)))) pss_nil)
  (pss_cons (ps_asg (pe_canX C_read_parts hr (by decide) rfl (passes_call (takes_of rfl rfl rfl rfl) (fun _ _ _ _ h => h)) (pa_cons (pv 0) (pa_cons pe_int (pa_cons pe_int pa_nil)))) (pg_tup rfl (pgs_cons (pg_name (i := 1) sc_read_round.nd rfl (by first | exact Or.inl rfl | exact Or.inr rfl)) (pgs_cons (pg_name (i := 2) sc_read_round.nd rfl (by first | exact Or.inl rfl | exact Or.inr rfl)) (pgs_cons (pg_name (i := 3) sc_read_round.nd rfl (by first | exact Or.inl rfl | exact Or.inr rfl)) pgs_nil)))))
  (pss_cons (ps_if (pt_cmpR op_gt (pv 2) (C8.pe_gc rfl c_MOST_BEATS) (nomark _)) (pss_one (ps_raise rfl (takes_of rfl rfl rfl rfl) (pmk_err E_TooLong hr (by decide) rfl (pa_cons (pv 2) pa_nil)))) pss_nil)
  (pss_one (ps_ret (pv 3)))))), ?_⟩)
  · obtain ⟨_, rfl, _⟩ := h
    rfl
  · obtain ⟨x, rfl, h⟩ := h
    rcases h with ⟨m, hm, hk, w1⟩ | ⟨l, rfl, hl, q⟩
    · walk_at "rd"
      refine r_isi hm hk ?_
      walk_at "rd"
      exact r_mk w1
    · walk_at "rd"
      refine ⟨l, 0, rfl, hl, Nat.zero_le _, ?_⟩
      show OutR A_BadText l (rdAt 6 true (l.drop 0)) H _ E
      rw [List.drop_zero]
      unfold OutRound at q
      cases hx : rdAt 6 true l with
      | error e =>
        rw [hx] at q
        exact q
      | ok g =>
        rw [hx] at q
        obtain ⟨q1, q2⟩ := q
        intro p H1 ex1 hp
        walk_at "rd"
        refine r_gtup3 rfl (Evl.st_of hp) ?_
        walk_at "rd"
        refine r_ite (fun h => ?_) (fun h => ?_)
        · walk_at "rd"
          exact r_mk ((q2 (by omega)).ex ex1)
        · walk_at "rd"
          exact q1 (by omega) H1 ex1
end
end Fk

set_option Elab.async false
set_option linter.all false
set_option maxRecDepth 100000
set_option maxHeartbeats 4000000
namespace Rt
open Fg
/-! ### the shortest text of a row -/
/-- shorter, or as long and not behind -/
def Le (a b : List Nat) : Prop := a.length < b.length ∨ (a.length = b.length ∧ a ≤ b)
theorem Le.refl (a : List Nat) : Le a a := .inr ⟨rfl, List.le_refl a⟩
theorem Le.trans {a b c : List Nat} (h : Le a b) (k : Le b c) : Le a c := by
  rcases h with h | ⟨h, h'⟩
  · rcases k with k | ⟨k, k'⟩
    · exact .inl (by omega)
    · exact .inl (by omega)
  · rcases k with k | ⟨k, k'⟩
    · exact .inl (by omega)
    · exact .inr ⟨by omega, List.le_trans h' k'⟩
theorem Le.anti {a b : List Nat} (h : Le a b) (k : Le b a) : a = b := by
  rcases h with h | ⟨h, h'⟩
  · rcases k with k | ⟨k, k'⟩ <;> omega
  · rcases k with k | ⟨k, k'⟩
    · omega
    · exact List.le_antisymm h' k'
theorem Le.total (a b : List Nat) : Le a b ∨ Le b a := by
  rcases Nat.lt_trichotomy a.length b.length with h | h | h
  · exact .inl (.inl h)
  · rcases List.le_total a b with k | k
    · exact .inl (.inr ⟨h, k⟩)
    · exact .inr (.inr ⟨h.symm, k⟩)
  · exact .inr (.inl h)
theorem Le.len {a b : List Nat} (h : Le a b) : a.length ≤ b.length := by
  rcases h with h | h <;> omega
theorem le_left : ∀ (c : List Nat) {a b : List Nat}, a ≤ b → c ++ a ≤ c ++ b
  | [], _, _, h => h
  | x :: c, a, b, h => List.cons_le_cons_iff.mpr (.inr ⟨rfl, le_left c h⟩)
theorem le_right (c : List Nat) : ∀ {a b : List Nat}, a.length = b.length → a ≤ b → a ++ c ≤ b ++ c
  | [], [], _, _ => List.le_refl _
  | [], _ :: _, h, _ => nomatch h
  | _ :: _, [], h, _ => nomatch h
  | x :: a, y :: b, h, k => by
    have h' : a.length = b.length := Nat.succ.inj h
    rcases List.cons_le_cons_iff.mp k with k2 | ⟨e, k2⟩
    · exact List.cons_le_cons_iff.mpr (.inl k2)
    · exact List.cons_le_cons_iff.mpr (.inr ⟨e, le_right c h' k2⟩)
theorem Le.left (c : List Nat) {a b : List Nat} (h : Le a b) : Le (c ++ a) (c ++ b) := by
  rcases h with h | ⟨h, k⟩
  · exact .inl (by rw [List.length_append, List.length_append]; omega)
  · exact .inr ⟨by rw [List.length_append, List.length_append]; omega, le_left c k⟩
theorem Le.right (c : List Nat) {a b : List Nat} (h : Le a b) : Le (a ++ c) (b ++ c) := by
  rcases h with h | ⟨h, k⟩
  · exact .inl (by rw [List.length_append, List.length_append]; omega)
  · exact .inr ⟨by rw [List.length_append, List.length_append]; omega, le_right c h k⟩
theorem Le.cat {a b c d : List Nat} (h : Le a b) (k : Le c d) : Le (a ++ c) (b ++ d) := (h.right c).trans (k.left b)
def brk (n : Nat) (w : List Nat) : List Nat := digs n ++ 40 :: (w ++ [41])
theorem Le.brk {n : Nat} {a b : List Nat} (h : Le a b) : Le (brk n a) (brk n b) := ((h.right [41]).left [40]).left (digs n)
/-- the texts of a row, without `&` and `@` -/
inductive W : List Nat → List Nat → Prop
  | one (c : Nat) : W [c] [c]
  | rep1 {c n : Nat} (h : 2 ≤ n) : W (rep n [c]) (digs n ++ [c])
  | rep {u w : List Nat} {n : Nat} (h : 2 ≤ n) (hu : W u w) : W (Rt.rep n u) (brk n w)
  | cat {a b wa wb : List Nat} (ha : W a wa) (hb : W b wb) : W (a ++ b) (wa ++ wb)
/-- those that are one item -/
inductive SW : List Nat → List Nat → Prop
  | one (c : Nat) : SW [c] [c]
  | rep1 {c n : Nat} (h : 2 ≤ n) : SW (rep n [c]) (digs n ++ [c])
  | rep {u w : List Nat} {n : Nat} (h : 2 ≤ n) (hu : W u w) : SW (Rt.rep n u) (brk n w)
theorem SW.w {r t : List Nat} (h : SW r t) : W r t := by
  cases h with
  | one c => exact .one c
  | rep1 h => exact .rep1 h
  | rep h hu => exact .rep h hu
theorem rep_length (n : Nat) (u : List Nat) : (rep n u).length = n * u.length := by
  unfold rep
  simp [List.length_flatten, List.map_replicate, List.sum_replicate_nat]
theorem digs_ne (n : Nat) : 1 ≤ (digs n).length := by unfold digs; split <;> simp
theorem W.ne {r t : List Nat} (h : W r t) : 1 ≤ r.length ∧ 1 ≤ t.length := by
  induction h with
  | one c => exact ⟨Nat.le_refl _, Nat.le_refl _⟩
  | @rep1 c n h => exact ⟨by rw [rep_length]; show 1 ≤ n * 1; omega, by rw [List.length_append]; show 1 ≤ _ + 1; omega⟩
  | @rep u w n h hu ih => exact ⟨by rw [rep_length]; exact Nat.mul_pos (by omega) ih.1, by unfold brk; rw [List.length_append]; have := digs_ne n; omega⟩
  | cat ha hb iha ihb => exact ⟨by rw [List.length_append]; omega, by rw [List.length_append]; omega⟩
theorem W.plain : ∀ {r : List Nat}, r ≠ [] → W r r
  | [], h => absurd rfl h
  | [c], _ => .one c
  | c :: d :: r, _ => W.cat (.one c) (W.plain (r := d :: r) (fun z => nomatch z))
def IsMin (r t : List Nat) : Prop := W r t ∧ ∀ t', W r t' → Le t t'
theorem IsMin.eq {r t t' : List Nat} (h : IsMin r t) (k : IsMin r t') : t = t' := (h.2 _ k.1).anti (k.2 _ h.1)
theorem IsMin.le {r t : List Nat} (h : IsMin r t) : t.length ≤ r.length := by
  have ne : r ≠ [] := fun z => by
    have := h.1.ne.1
    rw [z] at this
    cases this
  exact (h.2 _ (W.plain ne)).len
theorem min_one (c : Nat) : IsMin [c] [c] := ⟨.one c, fun t' h => by
  have h1 := h.ne.2
  rcases Nat.eq_or_lt_of_le h1 with e | e
  · -- a text of one sign
    generalize hr : [c] = r at h
    cases h with
    | one d => cases hr; exact Le.refl _
    | @rep1 d n h =>
      have : ([c] : List Nat).length = n * 1 := by rw [hr, rep_length]; rfl
      have : 1 = n * 1 := this
      omega
    | @rep u w n h hu =>
      have h2 : ([c] : List Nat).length = n * u.length := by rw [hr, rep_length]
      have h3 : 1 = n * u.length := h2
      have := hu.ne.1
      have : 2 * 1 ≤ n * u.length := Nat.mul_le_mul h this
      omega
    | @cat a b wa wb ha hb =>
      have h2 : ([c] : List Nat).length = a.length + b.length := by rw [hr, List.length_append]
      have h3 : 1 = a.length + b.length := h2
      have := ha.ne.1
      have := hb.ne.1
      omega
  · exact .inl e⟩
/-! ### the program's way -/
/-- what the program chooses from, when all shorter pieces are known -/
inductive Cand (B : List Nat → List Nat) (r : List Nat) : List Nat → Prop
  | item {n : Nat} (h : 2 ≤ n) (hn : n ≤ r.length) (e : rep n (r.take (r.length / n)) = r) : Cand B r (digs n ++ (if (r.take (r.length / n)).length = 1 then r.take (r.length / n) else 40 :: (B (r.take (r.length / n)) ++ [41])))
  | cut {k : Nat} (h : 1 ≤ k) (hk : k < r.length) : Cand B r (B (r.take k) ++ B (r.drop k))
theorem rep_take {u : List Nat} {n : Nat} (h : 2 ≤ n) (hu : 1 ≤ u.length) : n ≤ (rep n u).length ∧ (rep n u).length / n = u.length ∧ (rep n u).take u.length = u := by
  have hl := rep_length n u
  refine ⟨by rw [hl]; exact Nat.le_mul_of_pos_right _ hu, by rw [hl]; exact Nat.mul_div_cancel_left _ (by omega), ?_⟩
  obtain ⟨m, rfl⟩ : ∃ m, n = m + 1 := ⟨n - 1, by omega⟩
  have e : rep (m + 1) u = u ++ rep m u := by
    unfold rep
    rw [List.replicate_succ, List.flatten_cons]
  rw [e]
  exact List.take_left
theorem len_one {u : List Nat} (h : u.length = 1) : ∃ c, u = [c] := by
  match u, h with
  | [c], _ => exact ⟨c, rfl⟩
theorem prog_min {B : List Nat → List Nat} {r t : List Nat} (h2 : 2 ≤ r.length) (hB : ∀ k, 1 ≤ k → k < r.length → IsMin (r.take k) (B (r.take k)) ∧ IsMin (r.drop k) (B (r.drop k))) (ht : Cand B r t) (hm : ∀ t', Cand B r t' → Le t t') : IsMin r t := by
  refine ⟨?_, fun t' h => ?_⟩
  · cases ht with
    | @item n h hn e =>
      have k1 : 1 ≤ r.length / n := Nat.div_pos hn (by omega)
      have k2 : r.length / n < r.length := Nat.div_lt_self (by omega) (by omega)
      have hb := (hB _ k1 k2).1
      generalize r.take (r.length / n) = u at e hb ⊢
      split
      · rename_i h1
        obtain ⟨c, rfl⟩ := len_one h1
        rw [← e]
        exact .rep1 h
      · rw [← e]
        exact .rep h hb.1
    | @cut k h hk =>
      have hb := hB k h hk
      have := W.cat hb.1.1 hb.2.1
      rwa [List.take_append_drop] at this
  · cases h with
    | one c => exact absurd h2 (by show ¬ 2 ≤ 1; decide)
    | @rep1 c n h =>
      obtain ⟨e1, e2, e3⟩ := rep_take (u := [c]) h (Nat.le_refl _)
      have c1 := hm _ (Cand.item (B := B) h e1 (by rw [e2, e3]))
      rw [e2, e3] at c1
      exact c1
    | @rep u w n h hu =>
      obtain ⟨e1, e2, e3⟩ := rep_take (u := u) h hu.ne.1
      have c1 := hm _ (Cand.item (B := B) h e1 (by rw [e2, e3]))
      have k1 : 1 ≤ u.length := hu.ne.1
      have k2 : u.length < (Rt.rep n u).length := by
        rw [rep_length]
        have : 2 * u.length ≤ n * u.length := Nat.mul_le_mul_right _ h
        omega
      have hb := (hB _ k1 k2).1
      rw [e2] at c1
      rw [e3] at c1 hb
      refine c1.trans ?_
      split
      · rename_i h1
        obtain ⟨c, rfl⟩ := len_one h1
        refine .inl ?_
        unfold brk
        simp only [List.length_append, List.length_cons, List.length_nil]
        omega
      · exact Le.brk (hb.2 _ hu)
    | @cat a b wa wb ha hb =>
      have la := ha.ne.1
      have lb := hb.ne.1
      have hk : a.length < (a ++ b).length := by rw [List.length_append]; omega
      have hB' := hB a.length la hk
      have c1 := hm _ (Cand.cut (B := B) la hk)
      rw [List.take_left, List.drop_left] at hB' c1
      exact c1.trans ((hB'.1.2 _ ha).cat (hB'.2.2 _ hb))
/-! ### the law's way -/
def IsS (r : List Nat) : Option (List Nat) → Prop
  | none => ∀ t, ¬ SW r t
  | some s => SW r s ∧ ∀ t, SW r t → Le s t
theorem W.cases {r t : List Nat} (h : W r t) : SW r t ∨ ∃ a b wa wb, r = a ++ b ∧ t = wa ++ wb ∧ W a wa ∧ W b wb := by
  cases h with
  | one c => exact .inl (.one c)
  | rep1 h => exact .inl (.rep1 h)
  | rep h hu => exact .inl (.rep h hu)
  | cat ha hb => exact .inr ⟨_, _, _, _, rfl, rfl, ha, hb⟩
/-- every text of a row is one item, or something and one item behind it -/
theorem W.last {r t : List Nat} (h : W r t) : SW r t ∨ ∃ a b wa wb, r = a ++ b ∧ t = wa ++ wb ∧ W a wa ∧ SW b wb := by
  induction h with
  | one c => exact .inl (.one c)
  | rep1 h => exact .inl (.rep1 h)
  | rep h hu => exact .inl (.rep h hu)
  | @cat a b wa wb ha hb iha ihb =>
    rcases ihb with h | ⟨a2, b2, wa2, wb2, e1, e2, h1, h2⟩
    · exact .inr ⟨a, b, wa, wb, rfl, rfl, ha, h⟩
    · exact .inr ⟨a ++ a2, b2, wa ++ wa2, wb2, by rw [e1, List.append_assoc], by rw [e2, List.append_assoc], .cat ha h1, h2⟩
/-- what the law chooses from for a row: one item, or the least text of a beginning with the least item behind it -/
inductive LC (I : Nat → List Nat) (S : Nat → Option (List Nat)) (r : List Nat) : List Nat → Prop
  | whole {s : List Nat} (h : S 0 = some s) : LC I S r s
  | cut {k : Nat} {s : List Nat} (h : 1 ≤ k) (hk : k < r.length) (e : S k = some s) : LC I S r (I k ++ s)
theorem law_min {I : Nat → List Nat} {S : Nat → Option (List Nat)} {r t : List Nat} (hI : ∀ k, 1 ≤ k → k < r.length → IsMin (r.take k) (I k)) (hS : ∀ k, k < r.length → IsS (r.drop k) (S k)) (h0 : 1 ≤ r.length) (ht : LC I S r t) (hm : ∀ t', LC I S r t' → Le t t') : IsMin r t := by
  refine ⟨?_, fun t' h => ?_⟩
  · cases ht with
    | whole h =>
      have hs := hS 0 h0
      rw [h] at hs
      exact hs.1.w
    | @cut k s h hk e =>
      have hs := hS k hk
      rw [e] at hs
      have := W.cat (hI k h hk).1 hs.1.w
      rwa [List.take_append_drop] at this
  · rcases h.last with h | ⟨a, b, wa, wb, rfl, rfl, ha, hb⟩
    · have hs := hS 0 h0
      cases e : S 0 with
      | none => rw [e] at hs; exact absurd h (hs _)
      | some s =>
        rw [e] at hs
        exact (hm _ (.whole e)).trans (hs.2 _ h)
    · have la := ha.ne.1
      have lb := hb.w.ne.1
      have hk : a.length < (a ++ b).length := by rw [List.length_append]; omega
      have hs := hS a.length hk
      have hi := hI a.length la hk
      rw [List.drop_left] at hs
      rw [List.take_left] at hi
      cases e : S a.length with
      | none => rw [e] at hs; exact absurd hb (hs _)
      | some s =>
        rw [e] at hs
        exact (hm _ (.cut la hk e)).trans ((hi.2 _ ha).cat (hs.2 _ hb))
/-- the law's single items -/
inductive SC (F : Nat → List Nat) (r : List Nat) : List Nat → Prop
  | dig {n c : Nat} (h : 2 ≤ n) (e : rep n [c] = r) : SC F r (digs n ++ [c])
  | brk {k n : Nat} (h : 1 ≤ k) (h2 : 2 ≤ n) (e : rep n (r.take k) = r) (hl : k < r.length) : SC F r (brk n (F k))
theorem single_min {F : Nat → List Nat} {r : List Nat} {o : Option (List Nat)} (h2 : 2 ≤ r.length) (hF : ∀ k, 1 ≤ k → k < r.length → IsMin (r.take k) (F k)) (ho : match o with
    | none => ∀ t, ¬ SC F r t
    | some s => SC F r s ∧ ∀ t, SC F r t → Le s t) : IsS r o := by
  have cov : ∀ t, SW r t → ∃ t0, SC F r t0 ∧ Le t0 t := by
    intro t h
    cases h with
    | one c => exact absurd h2 (by show ¬ 2 ≤ 1; decide)
    | @rep1 c n h => exact ⟨_, .dig h rfl, Le.refl _⟩
    | @rep u w n h hu =>
      obtain ⟨e1, e2, e3⟩ := rep_take (u := u) h hu.ne.1
      have k2 : u.length < (Rt.rep n u).length := by
        rw [rep_length]
        have : 2 * u.length ≤ n * u.length := Nat.mul_le_mul_right _ h
        have := hu.ne.1
        omega
      have hf := hF u.length hu.ne.1 k2
      rw [e3] at hf
      exact ⟨_, .brk hu.ne.1 h (by rw [e3]) k2, Le.brk (hf.2 _ hu)⟩
  have sw : ∀ t, SC F r t → SW r t := by
    intro t h
    cases h with
    | @dig n c h e => rw [← e]; exact .rep1 h
    | @brk k n h h2 e hl =>
      have hf := (hF k h hl).1
      have := SW.rep h2 hf
      rwa [e] at this
  cases o with
  | none =>
    intro t h
    obtain ⟨t0, h0, _⟩ := cov t h
    exact ho t0 h0
  | some s =>
    refine ⟨sw _ ho.1, fun t h => ?_⟩
    obtain ⟨t0, h0, h1⟩ := cov t h
    exact (ho.2 _ h0).trans h1
theorem single_one (c : Nat) : IsS [c] (some [c]) := ⟨.one c, fun t h => (min_one c).2 _ h.w⟩
/-- a text that is filled is never better -/
theorem fill_worse {a r t ta : List Nat} {k : Nat} (hr : r = a ++ List.replicate k 46) (hk : 1 ≤ k) (h24 : r.length ≤ 24) (ha : IsMin a ta) (ht : IsMin r t) : Le t (ta ++ 64 :: digs r.length) := by
  have la := ha.1.ne.1
  have hl : r.length = a.length + k := by rw [hr, List.length_append, List.length_replicate]
  have key : ∃ d, W (List.replicate k 46) d ∧ Le d (64 :: digs r.length) := by
    rcases Nat.eq_or_lt_of_le hk with e | e
    · subst e
      refine ⟨[46], .one 46, .inl ?_⟩
      have := digs_ne r.length
      show 1 < (digs r.length).length + 1
      omega
    · have e2 : rep k [46] = List.replicate k 46 := by
        unfold rep
        clear hr hl hk e
        induction k with
        | zero => rfl
        | succ k ih => rw [List.replicate_succ, List.flatten_cons, ih, List.replicate_succ]; rfl
      refine ⟨digs k ++ [46], by rw [← e2]; exact .rep1 e, ?_⟩
      unfold digs
      by_cases h10 : k < 10
      · rw [if_pos h10]
        by_cases r10 : r.length < 10
        · rw [if_pos r10]
          exact .inr ⟨rfl, List.cons_le_cons_iff.mpr (.inl (by omega))⟩
        · rw [if_neg r10]
          exact .inl (by show 2 < 3; decide)
      · rw [if_neg h10, if_neg (by omega)]
        exact .inr ⟨rfl, List.cons_le_cons_iff.mpr (.inl (by omega))⟩
  obtain ⟨d, h1, h2⟩ := key
  exact (ht.2 _ (by rw [hr]; exact .cat ha.1 h1)).trans (h2.left ta)
end Rt

set_option Elab.async false
set_option linter.all false
set_option maxRecDepth 100000
set_option maxHeartbeats 4000000
namespace Rt
open Fg
/-! ### the shortest texts are read back -/
theorem gd_l {a b : List Nat} {j : Nat} (h : j < a.length) : (a ++ b).getD j 0 = a.getD j 0 := by
  rw [List.getD_eq_getElem?_getD, List.getD_eq_getElem?_getD, List.getElem?_append_left h]
theorem gd_r {a b : List Nat} {j : Nat} (h : a.length ≤ j) : (a ++ b).getD j 0 = b.getD (j - a.length) 0 := by
  rw [List.getD_eq_getElem?_getD, List.getD_eq_getElem?_getD, List.getElem?_append_right h]
theorem gd_e {a : List Nat} {j : Nat} (h : j < a.length) : a.getD j 0 = a[j] := by
  rw [List.getD_eq_getElem?_getD, List.getElem?_eq_getElem h]
  rfl
theorem cItems_app {α : Type} {f : α → Nat} (a b : List (It α)) : cItems f (a ++ b) = cItems f a + cItems f b := by
  unfold cItems
  rw [List.map_append, List.sum_append]
theorem sItems_app {α : Type} {f : α → Nat} {g : α → Nat → Nat} : ∀ (a b : List (It α)) (j : Nat), sItems f g (a ++ b) j = if j < cItems f a then sItems f g a j else sItems f g b (j - cItems f a)
  | [], b, j => by
    rw [if_neg (by unfold cItems; show ¬ j < 0; omega)]
    rfl
  | i :: a, b, j => by
    have e : cItems f (i :: a) = cItem f i + cItems f a := rfl
    rw [e]
    show (if j < cItem f i then sItem g i j else sItems f g (a ++ b) (j - cItem f i)) = if j < cItem f i + cItems f a then (if j < cItem f i then sItem g i j else sItems f g a (j - cItem f i)) else _
    by_cases h : j < cItem f i
    · rw [if_pos h, if_pos (by omega), if_pos h]
    · rw [if_neg h, sItems_app a b]
      by_cases h2 : j < cItem f i + cItems f a
      · rw [if_pos (by omega), if_pos h2, if_neg h]
      · rw [if_neg (by omega), if_neg h2, Nat.sub_sub]
theorem rep_get {u : List Nat} : ∀ (n j : Nat), j < n * u.length → (rep n u).getD j 0 = u.getD (j % u.length) 0
  | 0, j, h => by omega
  | n + 1, j, h => by
    have e : rep (n + 1) u = u ++ rep n u := by
      unfold rep
      rw [List.replicate_succ, List.flatten_cons]
    have hu : 0 < u.length := by
      rcases Nat.eq_zero_or_pos u.length with z | z
      · rw [z] at h; omega
      · exact z
    rw [Nat.succ_mul] at h
    rw [e]
    by_cases hj : j < u.length
    · rw [gd_l hj, Nat.mod_eq_of_lt hj]
    · rw [gd_r (by omega), rep_get n (j - u.length) (by omega), show j % u.length = (j - u.length) % u.length from Nat.mod_eq_sub_mod (by omega)]
structure Its (n : Nat) (r t : List Nat) (l : List (It (T n))) : Prop where
  ne : l ≠ []
  ok : ∀ i ∈ l, okItem (okT n) i
  w : (l.map (wItem (wT n))).flatten = t
  c : cItems (cT n) l = r.length
  s : ∀ j, j < r.length → sItems (cT n) (sT n) l j = r.getD j 0
theorem Its.one {n : Nat} {r t : List Nat} {l : List (It (T n))} (h : Its n r t l) (h1 : 1 ≤ r.length) : okT (n + 1) (show T (n + 1) from [(l, 0)]) ∧ wT (n + 1) (show T (n + 1) from [(l, 0)]) = t ∧ cT (n + 1) (show T (n + 1) from [(l, 0)]) = r.length ∧ ∀ j, sT (n + 1) (show T (n + 1) from [(l, 0)]) j = r.getD (j % r.length) 0 := by
  have c0 : cT (n + 1) (show T (n + 1) from [(l, 0)]) = r.length := by
    show Nat.lcm 1 (cItems (cT n) l) = _
    rw [Nat.lcm_one_left, h.c]
  refine ⟨⟨by simp, fun p hp => ?_⟩, ?_, c0, fun j => ?_⟩
  · have e : p = (l, 0) := by simpa using hp
    rw [e]
    exact ⟨h.ne, h.ok, .inl rfl⟩
  · show (l.map (wItem (wT n))).flatten ++ [] = t
    rw [List.append_nil, h.w]
  · show (if sItems (cT n) (sT n) l (j % cItems (cT n) l) ≠ 46 then sItems (cT n) (sT n) l (j % cItems (cT n) l) else 46) = _
    rw [h.c, h.s _ (Nat.mod_lt _ h1)]
    split
    · rfl
    · rename_i z
      exact (Decidable.not_not.mp z).symm
theorem W_its {r t : List Nat} (h : W r t) : ∀ (n : Nat), (∀ c ∈ r, isSg c = true) → r.length < 2 ^ (n + 1) → r.length ≤ 24 → ∃ l : List (It (T n)), Its n r t l := by
  induction h with
  | one c =>
    intro n hs hl h24
    refine ⟨[(0, .inl c)], by simp, fun i hi => ?_, ?_, rfl, fun j hj => ?_⟩
    · have e : i = (0, .inl c) := by simpa using hi
      rw [e]
      exact ⟨hs c (by simp), .inl rfl⟩
    · rfl
    · have : j = 0 := by
        have : j < 1 := hj
        omega
      subst this
      rfl
  | @rep1 c m h =>
    intro n hs hl h24
    have hlen : (rep m [c]).length = m := by rw [rep_length]; show m * 1 = m; omega
    rw [hlen] at h24
    have hc : c ∈ rep m [c] := by
      obtain ⟨k, rfl⟩ : ∃ k, m = k + 1 := ⟨m - 1, by omega⟩
      unfold rep
      rw [List.replicate_succ, List.flatten_cons]
      simp
    refine ⟨[(m, .inl c)], by simp, fun i hi => ?_, ?_, ?_, fun j hj => ?_⟩
    · have e : i = (m, .inl c) := by simpa using hi
      rw [e]
      exact ⟨hs c hc, .inr ⟨h, h24⟩⟩
    · show ((if 0 < m then digs m else []) ++ [c]) ++ [] = _
      rw [if_pos (by omega), List.append_nil]
    · rw [hlen]
      show max 1 m * 1 + 0 = m
      omega
    · rw [hlen] at hj
      rw [rep_get m j (by show j < m * 1; omega)]
      show (if j < max 1 m * 1 then c else _) = _
      rw [if_pos (by omega), show j % ([c] : List Nat).length = 0 from Nat.mod_one j]
      rfl
  | @rep u w m h hu ih =>
    intro n hs hl h24
    have u1 := hu.ne.1
    rw [rep_length] at hl h24
    have m2 : 2 * u.length ≤ m * u.length := Nat.mul_le_mul_right _ h
    have m24 : m ≤ m * u.length := Nat.le_mul_of_pos_right _ u1
    cases n with
    | zero => omega
    | succ n =>
      have hl2 : u.length < 2 ^ (n + 1) := by
        rw [Nat.pow_succ] at hl
        omega
      have hsu : ∀ c ∈ u, isSg c = true := fun c hc => hs c (by
        obtain ⟨k, rfl⟩ : ∃ k, m = k + 1 := ⟨m - 1, by omega⟩
        unfold Rt.rep
        rw [List.replicate_succ, List.flatten_cons]
        exact List.mem_append.mpr (.inl hc))
      obtain ⟨l, hI⟩ := ih n hsu hl2 (by omega)
      obtain ⟨ok, hw, hc, hsT⟩ := hI.one u1
      generalize (show T (n + 1) from [(l, 0)]) = x at ok hw hc hsT
      refine ⟨[(m, .inr x)], by simp, fun i hi => ?_, ?_, ?_, fun j hj => ?_⟩
      · have e : i = (m, .inr x) := by simpa using hi
        rw [e]
        exact ⟨h, by omega, ok⟩
      · show ((if 0 < m then digs m else []) ++ 40 :: (wT (n + 1) x ++ [41])) ++ [] = _
        rw [if_pos (by omega), List.append_nil, hw]
        rfl
      · rw [rep_length]
        show max 1 m * cT (n + 1) x + 0 = _
        rw [hc, Nat.max_eq_right (by omega), Nat.add_zero]
      · rw [rep_length] at hj
        rw [rep_get m j hj, ← hsT j]
        show (if j < max 1 m * cT (n + 1) x then sT (n + 1) x j else _) = _
        rw [hc, Nat.max_eq_right (by omega), if_pos hj]
  | @cat a b wa wb ha hb iha ihb =>
    intro n hs hl h24
    rw [List.length_append] at hl h24
    obtain ⟨la, Ia⟩ := iha n (fun c hc => hs c (List.mem_append.mpr (.inl hc))) (by omega) (by omega)
    obtain ⟨lb, Ib⟩ := ihb n (fun c hc => hs c (List.mem_append.mpr (.inr hc))) (by omega) (by omega)
    refine ⟨la ++ lb, fun z => Ia.ne (List.append_eq_nil_iff.mp z).1, fun i hi => ?_, ?_, ?_, fun j hj => ?_⟩
    · rcases List.mem_append.mp hi with z | z
      · exact Ia.ok i z
      · exact Ib.ok i z
    · rw [List.map_append, List.flatten_append, Ia.w, Ib.w]
    · rw [cItems_app, Ia.c, Ib.c, List.length_append]
    · rw [List.length_append] at hj
      rw [sItems_app, Ia.c]
      by_cases h : j < a.length
      · rw [if_pos h, Ia.s j h, gd_l h]
      · rw [if_neg h, Ib.s _ (by omega), gd_r (by omega)]
theorem W_reads {r t : List Nat} (h : W r t) (hs : ∀ c ∈ r, isSg c = true) (h24 : r.length ≤ 24) : rdAt 6 true t = .ok ([], r.length, r) := by
  have r1 := h.ne.1
  obtain ⟨l, hI⟩ := W_its h 4 hs (by show r.length < 32; omega) h24
  obtain ⟨ok, hw, hc, hsT⟩ := hI.one r1
  have rd := round_reads (n := 5) (by decide) _ ok
  rw [hw, hc] at rd
  rw [rd]
  have e : rowOf r.length (sT 5 (show T 5 from [(l, 0)])) = r := by
    unfold rowOf
    rw [if_pos h24]
    refine List.ext_getElem (by simp) fun j h1 h2 => ?_
    rw [List.getElem_map, List.getElem_range, hsT j, Nat.mod_eq_of_lt h2, gd_e h2]
  rw [e]
/-- no text of these holds `&` -/
theorem W_and {r t : List Nat} (h : W r t) : (∀ c ∈ r, isSg c = true) → (∀ x ∈ t, x ≠ 38) := by
  have dg38 : ∀ (n x : Nat), x ∈ digs n → x ≠ 38 := by
    intro n x hx
    unfold digs at hx
    split at hx
    · have : x = 48 + n := by simpa using hx
      omega
    · have : x = 48 + n / 10 ∨ x = 48 + n % 10 := by simpa using hx
      omega
  have sg38 : ∀ c, isSg c = true → c ≠ 38 := fun c h z => by rw [z] at h; exact absurd h (by decide)
  induction h with
  | one c =>
    intro hs x hx
    have : x = c := by simpa using hx
    rw [this]
    exact sg38 c (hs c (by simp))
  | @rep1 c m h =>
    intro hs x hx
    rcases List.mem_append.mp hx with z | z
    · exact dg38 _ _ z
    · have : x = c := by simpa using z
      rw [this]
      refine sg38 c (hs c ?_)
      obtain ⟨k, rfl⟩ : ∃ k, m = k + 1 := ⟨m - 1, by omega⟩
      unfold rep
      rw [List.replicate_succ, List.flatten_cons]
      simp
  | @rep u w m h hu ih =>
    intro hs x hx
    have hsu : ∀ c ∈ u, isSg c = true := fun c hc => hs c (by
      obtain ⟨k, rfl⟩ : ∃ k, m = k + 1 := ⟨m - 1, by omega⟩
      unfold Rt.rep
      rw [List.replicate_succ, List.flatten_cons]
      exact List.mem_append.mpr (.inl hc))
    rcases List.mem_append.mp hx with z | z
    · exact dg38 _ _ z
    · rcases List.mem_cons.mp z with z | z
      · omega
      · rcases List.mem_append.mp z with z | z
        · exact ih hsu x z
        · have : x = 41 := by simpa using z
          omega
  | @cat a b wa wb ha hb iha ihb =>
    intro hs x hx
    rcases List.mem_append.mp hx with z | z
    · exact iha (fun c hc => hs c (List.mem_append.mpr (.inl hc))) x z
    · exact ihb (fun c hc => hs c (List.mem_append.mpr (.inr hc))) x z
end Rt

set_option Elab.async false
set_option linter.all false
set_option maxRecDepth 100000
set_option maxHeartbeats 4000000
namespace Fk
open PySem PySem.Spec PyProof.Rows L2 Fg Pu
local macro_rules | `(tactic| walk_at "rd1") => `(tactic| first
  | with_reducible refine r_seq ?_
  | with_reducible refine r_asg ?_
  | with_reducible refine r_gname ?_
  | with_reducible refine r_gsub ?_
  | with_reducible refine r_ret ?_
  | with_reducible refine r_retN ?_
  | with_reducible refine r_next ?_
  | with_reducible refine r_drop ?_
  | with_reducible refine r_ifS ?_
  | with_reducible refine r_if ?_
  | with_reducible refine r_par ?_
  | with_reducible refine r_pair ?_
  | with_reducible refine r_test ?_
  | with_reducible refine r_tB ?_
  | with_reducible refine r_not ?_
  | with_reducible refine r_and ?_
  | with_reducible refine r_or ?_
  | with_reducible refine r_andV ?_
  | with_reducible refine r_orV ?_
  | with_reducible refine r_notV ?_
  | with_reducible refine r_nil ?_
  | with_reducible refine r_cons ?_
  | with_reducible refine r_call ?_
  | with_reducible refine r_callS ?_
  | with_reducible refine r_cb ?_
  | with_reducible refine r_then ?_
  | with_reducible refine r_tup ?_
  | with_reducible refine r_lst ?_
  | with_reducible refine r_sl ?_
  | with_reducible refine r_nopart ?_
  | with_reducible refine r_part ?_
  | with_reducible refine r_lcR1 ?_
  | with_reducible refine r_lcR2 ?_
  | with_reducible refine r_lcL ?_
  | with_reducible refine r_lcT ?_
  | with_reducible refine r_forR1 ?_
  | with_reducible refine r_forR2 ?_
  | with_reducible refine r_forL ?_
  | with_reducible refine r_forT ?_
  | with_reducible refine r_forE ?_
  | with_reducible refine r_strE ?_
  | ((with_reducible refine r_rng1 ?hc ?_); (case hc => omega))
  | ((with_reducible refine r_rng2 ?hc ?_); (case hc => omega))
  | ((with_reducible refine' r_refL ?hc ?_); (case hc => first | assumption | exact Evl.sq_of (by assumption)))
  | ((with_reducible refine' r_refT ?hc ?_); (case hc => first | assumption | exact Evl.st_of (by assumption)))
  | with_reducible refine r_op ?_
  | with_reducible refine r_un ?_
  | with_reducible refine r_chain ?_
  | ((with_reducible refine' r_var ?hv ?_); (case hv => exact rfl))
  | with_reducible refine r_cS ?_
  | with_reducible refine r_cs ?_
  | with_reducible refine r_c ?_
  | with_reducible refine r_yes ?_
  | with_reducible refine r_bm ?_
  | with_reducible refine r_bl ?_
  | with_reducible refine r_in ?_
  | with_reducible refine r_ty ?_
  | with_reducible refine r_I0 ?_
  | ((with_reducible refine r_I ?hc ?_); (case hc => first | assumption | (show (0 : Int) < _; decide) | exact Or.inr ⟨by decide, by decide⟩ | exact Or.inr ⟨by omega, by omega⟩ | exact Or.inl ⟨by decide, by decide⟩ | exact (show CDivW _ _ from ⟨by decide, by decide +kernel⟩) | exact (show CPowW _ _ from ⟨by decide, by decide +kernel⟩) | (show (0 : Int) < _; omega)))
  | with_reducible refine r_U ?_
  | with_reducible refine r_eqI ?_
  | with_reducible refine r_neI ?_
  | with_reducible refine r_eqS ?_
  | with_reducible refine r_neS ?_
  | with_reducible refine r_eqB ?_
  | with_reducible refine r_neB ?_
  | with_reducible refine r_niS ?_
  | with_reducible refine r_inSS ?_
  | ((with_reducible refine r_slSS ?hc ?_); (case hc => first | exact small (by omega) | exact small (by simp; omega)))
  | ((with_reducible refine r_lenS ?hc ?_); (case hc => first | exact small (by omega) | exact small (by simp; omega)))
  | ((with_reducible refine' r_lenL ?hc ?_); (case hc => first | assumption | exact Evl.sq_of (by assumption)))
  | ((with_reducible refine' r_lenT ?hc ?_); (case hc => first | assumption | exact Evl.st_of (by assumption)))
  | ((with_reducible refine' r_ixL ?h1 ?h2 ?h3 ?_); (case h1 => first | assumption | exact Evl.sq_of (by assumption) | exact Evl.sq_of upd_same); (case h2 => first | decide | omega); (case h3 => first | exact rfl | assumption))
  | ((with_reducible refine' r_ixT ?h1 ?h2 ?h3 ?_); (case h1 => first | assumption | exact Evl.st_of (by assumption)); (case h2 => first | decide | omega); (case h3 => first | exact rfl | assumption))
  | with_reducible refine r_T ?_
  | with_reducible refine r_notNn ?_
  | with_reducible refine r_notN_int ?_
  | with_reducible refine r_notN_str ?_
  | with_reducible refine r_notN_ref ?_
  | with_reducible refine r_isNn ?_
  | with_reducible refine r_isN_int ?_
  | with_reducible refine r_isN_str ?_
  | with_reducible refine r_isN_ref ?_
  | ((with_reducible refine' r_isi ?ht ?hk ?_); (case ht => first | exact .base (.int _) | exact .base (.bl _) | exact .base (.str _) | exact .base .non | exact .base (.lst (by assumption)) | exact .base (.tup (by assumption))); (case hk => first | exact kb_int_int | exact kb_int_bool | exact kb_int_str | exact kb_int_list | exact kb_int_tuple | exact kb_bool_int | exact kb_bool_bool | exact kb_bool_str | exact kb_bool_list | exact kb_bool_tuple | exact kb_str_int | exact kb_str_bool | exact kb_str_str | exact kb_str_list | exact kb_str_tuple | exact kb_NoneType_int | exact kb_NoneType_bool | exact kb_NoneType_str | exact kb_NoneType_list | exact kb_NoneType_tuple | exact kb_list_int | exact kb_list_bool | exact kb_list_str | exact kb_list_list | exact kb_list_tuple | exact kb_tuple_int | exact kb_tuple_bool | exact kb_tuple_str | exact kb_tuple_list | exact kb_tuple_tuple))
  | with_reducible refine r_F ?_
  | with_reducible refine r_nT ?_
  | with_reducible refine r_nF ?_
  | with_reducible refine r_mko ?_
  | with_reducible refine r_xf ?_
  | ((with_reducible refine' r_sum ?hc ?_); (case hc => first | assumption | exact Evl.sq_of (by assumption)))
  | ((with_reducible refine' r_setL ?h1 ?h2 ?h3 ?_); (case h1 => first | assumption | exact upd_same); (case h2 => first | decide | omega); (case h3 => first | (show _ < _; decide) | (simp; done)))
  | with_reducible refine r_int ?_
  | with_reducible refine r_abs ?_)
local macro_rules | `(tactic| walk_at "rd") => `(tactic| repeat (walk_at "rd1"))

section
variable {P : Program} {w : World} {K : PySem.W.Frag} {mg : Str → Option Value} {base : Heap}
abbrev s_l_mix : Stmt := topS 34
abbrev N_l_mix : List Str := ["_law_cell", "_law_turn", "_law_one", "_law_two"]
theorem sc_l_mix : FnScope ["_law_cell", "_law_turn", "_law_one", "_law_two"] ["_law_cell", "_law_turn"] (defScope s_l_mix) := ⟨rfl, rfl, rfl, by decide +kernel, rfl, by decide +kernel, by decide +kernel⟩
def spMix : Sp := fun vs H Q _ => ∃ a b : Int, vs = [.int a, .int b] ∧ ∀ k : Int, Q (.int k) H
theorem can_mix (T : Bi mg) (F : Defd K mg "_law_mix" s_l_mix ["_law_cell", "_law_turn"]) : Can P w K mg base L2.CX0 1 "_law_mix" ["_law_cell", "_law_turn"] spMix := by
  refine can0 F sc_l_mix (fun vs H Q E h => ?_) (fun f cdv A outer s H vs Q E hr h => ⟨_, (pss_cons (ps_set (i := 2) sc_l_mix.nd rfl (by first | exact Or.inl rfl | exact Or.inr rfl) (pe_op op_mod (pe_callTy call_intI (by rfl) T.b_int boot_int (pa_cons (pe_op op_add (pe_op op_add (pe_op op_mul (pv 0) pe_int) (pe_op op_mul (pv 1) pe_int)) pe_int) pa_nil)) pe_int))
  (pss_cons (ps_set (i := 3) sc_l_mix.nd rfl (by first | exact Or.inl rfl | exact Or.inr rfl) (pe_op op_mod (pe_callTy call_intI (by rfl) T.b_int boot_int (pa_cons (pe_op op_add (pe_op op_add (pe_op op_mul (pv 2) (pv 2)) (pe_op op_mul (pv 1) pe_int)) (pv 0)) pa_nil)) pe_int))
  (pss_cons (ps_set (i := 3) sc_l_mix.nd rfl (by first | exact Or.inl rfl | exact Or.inr rfl) (pe_op op_mod (pe_callTy call_intI (by rfl) T.b_int boot_int (pa_cons (pe_op op_add (pe_op op_mul (pv 3) (pv 3)) (pv 2)) pa_nil)) pe_int))
  (pss_one (ps_ret (pe_op op_fdivW (pv 3) pe_int)))))), ?_⟩)
  · obtain ⟨a, b, rfl, _⟩ := h
    rfl
  · obtain ⟨a, b, rfl, q⟩ := h
    walk_at "rd"
    exact q _
abbrev s_l_draw : Stmt := topS 33
abbrev N_l_draw : List Str := ["_law_script", "_law_cells", "_law_cell"]
theorem sc_l_draw : FnScope ["_law_script", "_law_cells", "_law_cell"] ["_law_script"] (defScope s_l_draw) := ⟨rfl, rfl, rfl, by decide +kernel, rfl, by decide +kernel, by decide +kernel⟩abbrev s_l_pick : Stmt := topS 35
abbrev N_l_pick : List Str := ["_law_draw_here", "_law_many", "_law_cell", "_law_digit", "_law_found"]
theorem sc_l_pick : FnScope ["_law_draw_here", "_law_many", "_law_cell", "_law_digit", "_law_found"] ["_law_draw_here", "_law_many"] (defScope s_l_pick) := ⟨rfl, rfl, rfl, by decide +kernel, rfl, by decide +kernel, by decide +kernel⟩
abbrev Big : Int := (10 ^ 60) ^ 64
theorem cell_at {ns : List Int} {i : Int} (h0 : 0 ≤ i) (h : i < (ns.map V.int).length) : ∃ z : Int, (ns.map V.int)[i.toNat]? = some (.int z) := by
  have h1 : i.toNat < ns.length := by rw [List.length_map] at h; omega
  exact ⟨ns[i.toNat], by rw [List.getElem?_map, List.getElem?_eq_getElem h1]; rfl⟩
abbrev spDraw (K : PySem.W.Frag) : Sp := spDrawH K
abbrev spPick : Sp := spPickH
theorem can_draw (T : Bi mg) (F : Defd K mg "_law_draw" s_l_draw ["_law_script"]) : Can P w K mg base L2.CX0 1 "_law_draw" ["_law_script"] (spDraw K) := by
  refine can0 F sc_l_draw (fun vs H Q E h => ?_) (fun f cdv A outer s H vs Q E hr h => ⟨_, (pss_cons (ps_setLc (i := 1) (own := [("_law_cell", 2)]) (g := gName 2) (tt := tYes) rfl sc_l_draw.nd rfl rfl (sw_true rfl rfl rfl (by decide +kernel)) (pi_list (pv 0)) (blkOk_by (N := N_l_draw) (sc := defScope s_l_draw) (by decide +kernel)) (fun _ _ _ _ _ => pg_name (i := 2) sc_l_draw.nd rfl (Or.inl rfl)) (fun _ _ _ _ _ => pts_nil) (fun _ _ _ _ _ => (pv 2)))
  (pss_one (ps_ret (pe_lst (pa_cons (pv 1) (pa_cons pe_int (pa_cons pe_int (pa_cons pe_int (pa_cons pe_int (pa_cons (pe_op op_add (pe_op op_mod (pe_callTy call_intI (by rfl) T.b_int boot_int (pa_cons (pe_callB (cr_sum rfl) (by rfl) T.b_sum boot_sum (pa_cons (pv 1) pa_nil)) pa_nil)) pe_int) (pe_op op_mul pe_int (pe_callB call_lenQ (by rfl) T.b_len boot_len (pa_cons (pv 1) pa_nil)))) pa_nil)))))))))), ?_⟩)
  · obtain ⟨a, ns, rfl, _⟩ := h
    rfl
  · obtain ⟨a, ns, rfl, hS, hl, q⟩ := h
    walk_at "rd"
    refine lcL (xs := ns.map V.int) (fun D i acc H2 => Ex H H2 ∧ acc = (ns.take i).map V.int) (fun _ => rfl) (fun D hD => ⟨Evl.Ex.new hD, rfl⟩) (fun D i H2 acc _ h => Evl.ex_l h.1 hS) (fun D i x H2 acc hD hx h1 h2 h3 => ?_) (fun D H2 acc hD h1 h3 => ?_)
    · obtain ⟨e, rfl⟩ := h3
      have hi : i < 63 := by
        have := lt_of_get hx
        rw [List.length_map] at this
        omega
      walk_at "rd"
      exact lc_end (by omega) h2 h1 ⟨Evl.Ex.mut e hD, (take_map hx).symm⟩
    · obtain ⟨e, rfl⟩ := h3
      rw [List.take_of_length_le (by rw [List.length_map]; omega)] at h1
      walk_at "rd"
      refine ⟨small (by show 6 ≤ 1000000; decide), fun p hp => ?_⟩
      have ne : D ≠ p := ne_of_none h1 hp
      refine q D p _ hD (Evl.fresh_back e hp) (e.trans (Evl.Ex.new hp)) ⟨ne, ?_, _, _, _, _, _, upd_same, Int.le_refl _⟩
      rw [upd_ne ne]
      exact h1
theorem can_pick (T : Bi mg) (F : Defd K mg "_law_pick" s_l_pick ["_law_draw_here", "_law_many"]) (C_l_mix : Can P w K mg base L2.CX0 1 "_law_mix" ["_law_cell", "_law_turn"] spMix) : Can P w K mg base L2.CX0 2 "_law_pick" ["_law_draw_here", "_law_many"] spPick := by
  refine can0 F sc_l_pick (fun vs H Q E h => ?_) (fun f cdv A outer s H vs Q E hr h => ⟨_, (pss_cons (ps_if (pt_cmpR op_lt (pv 1) pe_int (nomark _)) (pss_one (ps_ret pe_int)) pss_nil)
  (Evl.pss_cut (ps_if (PW.pt (pw_and (pt_cmpR op_eq (pe_ix ix_list (pv 0) pe_int (fun _ _ => rfl)) pe_int (nomark _)) (pw_and (pt_cmpR op_lt (pe_ix ix_list (pv 0) pe_int (fun _ _ => rfl)) (pe_callB call_lenQ (by rfl) T.b_len boot_len (pa_cons (pe_ix ix_list (pv 0) pe_int (fun _ _ => rfl)) pa_nil)) (nomark _)) (pw_and1 (pt_cmpR op_eq (pe_ix ix_list (pv 0) pe_int (fun _ _ => rfl)) pe_int (nomark _)))))) (pss_cons (ps_set (i := 2) sc_l_pick.nd rfl (by first | exact Or.inl rfl | exact Or.inr rfl) (pe_ix ix_list (pe_ix ix_list (pv 0) pe_int (fun _ _ => rfl)) (pe_ix ix_list (pv 0) pe_int (fun _ _ => rfl)) (fun _ _ => rfl)))
  (pss_one (ps_if (PW.pt (pw_or (pt_cmpR op_ge (pv 2) (pe_op op_powW pe_int pe_int) (nomark _)) (pw_or1 (pt_cmpR op_le (pv 2) (pe_un un_neg (pe_op op_powW pe_int pe_int)) (nomark _))))) (pss_cons (ps_asg (pe_op op_mod (pe_callTy call_intI (by rfl) T.b_int boot_int (pa_cons (pe_callB call_absI (by rfl) T.b_abs boot_abs (pa_cons (pv 2) pa_nil)) pa_nil)) (pe_op op_powW (pe_op op_powW pe_int pe_int) pe_int)) (pg_sub (pv 0) pe_int set_list))
  (pss_one (ps_asg (pe_op op_add (pe_ix ix_list (pv 0) pe_int (fun _ _ => rfl)) pe_int) (pg_sub (pv 0) pe_int set_list)))) pss_nil))) pss_nil)
  (pss_cons (ps_if (pt_cmpR op_gt (pe_ix ix_list (pv 0) pe_int (fun _ _ => rfl)) pe_int (nomark _)) (pss_cons (ps_set (i := 3) sc_l_pick.nd rfl (by first | exact Or.inl rfl | exact Or.inr rfl) (pe_op op_mod (pe_callTy call_intI (by rfl) T.b_int boot_int (pa_cons (pe_ix ix_list (pv 0) pe_int (fun _ _ => rfl)) pa_nil)) (pv 1)))
  (pss_cons (ps_asg (pe_op op_fdivW (pe_ix ix_list (pv 0) pe_int (fun _ _ => rfl)) (pv 1)) (pg_sub (pv 0) pe_int set_list))
  (pss_one (ps_ret (pv 3))))) pss_nil)
  (pss_cons (ps_if (pt_cmpR op_lt (pe_ix ix_list (pv 0) pe_int (fun _ _ => rfl)) (pe_callB call_lenQ (by rfl) T.b_len boot_len (pa_cons (pe_ix ix_list (pv 0) pe_int (fun _ _ => rfl)) pa_nil)) (nomark _)) (pss_cons (ps_set (i := 2) sc_l_pick.nd rfl (by first | exact Or.inl rfl | exact Or.inr rfl) (pe_ix ix_list (pe_ix ix_list (pv 0) pe_int (fun _ _ => rfl)) (pe_ix ix_list (pv 0) pe_int (fun _ _ => rfl)) (fun _ _ => rfl)))
  (pss_cons (ps_asg (pe_op op_add (pe_ix ix_list (pv 0) pe_int (fun _ _ => rfl)) pe_int) (pg_sub (pv 0) pe_int set_list))
  (pss_cons (ps_set (i := 4) sc_l_pick.nd rfl (by first | exact Or.inl rfl | exact Or.inr rfl) (pe_op op_mod (pe_callTy call_intI (by rfl) T.b_int boot_int (pa_cons (pe_can C_l_mix hr (by decide) rfl (pa_cons (pe_op op_add (pv 2) (pe_op op_mul pe_int (pe_ix ix_list (pv 0) pe_int (fun _ _ => rfl)))) (pa_cons (pe_ix ix_list (pv 0) pe_int (fun _ _ => rfl)) pa_nil))) pa_nil)) (pv 1)))
  (pss_cons (ps_if (pt_cmpR op_eq (pe_ix ix_list (pv 0) pe_int (fun _ _ => rfl)) pe_int (nomark _)) (pss_cons (ps_asg pe_int (pg_sub (pv 0) pe_int set_list))
  (pss_one (ps_asg (pe_op op_add (pe_ix ix_list (pv 0) pe_int (fun _ _ => rfl)) pe_int) (pg_sub (pv 0) pe_int set_list)))) pss_nil)
  (pss_one (ps_ret (pv 4))))))) pss_nil)
  (pss_cons (ps_asg (pe_op op_add (pe_ix ix_list (pv 0) pe_int (fun _ _ => rfl)) pe_int) (pg_sub (pv 0) pe_int set_list))
  (pss_one (ps_ret (pe_op op_mod (pe_callTy call_intI (by rfl) T.b_int boot_int (pa_cons (pe_can C_l_mix hr (by decide) rfl (pa_cons (pe_ix ix_list (pv 0) pe_int (fun _ _ => rfl)) (pa_cons (pe_op op_add (pe_ix ix_list (pv 0) pe_int (fun _ _ => rfl)) pe_int) pa_nil))) pa_nil)) (pv 1))))))))), ?_⟩)
  · obtain ⟨_, _, _, _, rfl, _⟩ := h
    rfl
  · obtain ⟨c, d, m, ns, rfl, hD, hm, q⟩ := h
    obtain ⟨i, n, big, cnt, b0, hd, hi⟩ := hD.ex
    have hc : SqL K H c (ns.map V.int) := Evl.sq_of hD.cells
    have hm9 : m.natAbs.log2 < 9000 ∨ m < 2 := by
      by_cases h2 : m < 2
      · exact .inr h2
      · left
        have h3 : m.natAbs < 2 ^ 200 := by omega
        have := PySem.Flt.log2_lt_of (by decide : 0 < 200) h3
        omega
    walk_at "rd"
    refine r_ite (fun h => ?_) (fun h => ?_)
    · walk_at "rd"
      exact q 0 H (Int.le_refl _) (.inr rfl) (Kp.refl _ _) hD
    walk_at "rd"
    refine r_cut (Mid := fun σ' H' => ∃ x2, σ' = [some (.ref d), some (.int m), x2, none, none] ∧ Kp d H H' ∧ Dr ns c d H') ?_ ?_
    · walk_at "rd"
      have end0 : ∀ x2, ∃ x3, [some (V.ref d), some (V.int m), x2, none, none] = [some (V.ref d), some (V.int m), x3, none, none] ∧ Kp d H H ∧ Dr ns c d H := fun x2 => ⟨x2, rfl, Kp.refl _ _, hD⟩
      refine r_ite (fun h1 => ?_) (fun h1 => ?_)
      · walk_at "rd"
        refine r_ite (fun h2 => ?_) (fun h2 => ?_)
        · obtain ⟨z, hz⟩ := cell_at hi h2
          walk_at "rd"
          refine r_ite (fun h3 => ?_) (fun h3 => ?_)
          · walk_at "rd"
            have big2 : ∃ x3 : Option V, [some (V.ref d), some (V.int m), some (V.int z), none, none] = [some (V.ref d), some (V.int m), x3, none, none] ∧ Kp d H (upd (upd H d (.lst [.ref c, .int i, .int ((if z < 0 then -z else z) % Big), .int cnt, .int n, .int b0])) d (.lst [.ref c, .int (i + 1), .int ((if z < 0 then -z else z) % Big), .int cnt, .int n, .int b0])) ∧ Dr ns c d (upd (upd H d (.lst [.ref c, .int i, .int ((if z < 0 then -z else z) % Big), .int cnt, .int n, .int b0])) d (.lst [.ref c, .int (i + 1), .int ((if z < 0 then -z else z) % Big), .int cnt, .int n, .int b0])) := ⟨_, rfl, kp2, hD.put2 (by omega)⟩
            refine r_ite (fun h4 => ?_) (fun h4 => ?_)
            · walk_at "rd"
              exact big2
            · walk_at "rd"
              refine r_ite (fun h5 => ?_) (fun h5 => ?_)
              · walk_at "rd"
                exact big2
              · walk_at "rd"
                exact end0 _
          · walk_at "rd"
            exact end0 _
        · walk_at "rd"
          exact end0 _
      · walk_at "rd"
        exact end0 _
    · rintro σ' H' ⟨x2, rfl, kp, hD'⟩
      clear hd hi hc
      obtain ⟨i, n, big, cnt, b0, hd, hi⟩ := hD'.ex
      have hc : SqL K H' c (ns.map V.int) := Evl.sq_of hD'.cells
      have hm0 : 0 < m := by omega
      have dv : CDivW big m := ⟨hm0, by omega⟩
      walk_at "rd"
      refine r_ite (fun h1 => ?_) (fun h1 => ?_)
      · walk_at "rd"
        exact q _ _ (Int.emod_nonneg _ (by omega)) (.inl (Int.emod_lt_of_pos _ hm0)) (kp.trans Kp.upd) (hD'.put hi)
      · walk_at "rd"
        refine r_ite (fun h2 => ?_) (fun h2 => ?_)
        · obtain ⟨z, hz⟩ := cell_at hi h2
          walk_at "rd"
          refine ⟨_, _, rfl, fun k => ?_⟩
          walk_at "rd"
          refine r_ite (fun h3 => ?_) (fun h3 => ?_)
          · walk_at "rd"
            exact q _ _ (Int.emod_nonneg _ (by omega)) (.inl (Int.emod_lt_of_pos _ hm0)) (kp.trans kp3) (hD'.put3 (by omega))
          · walk_at "rd"
            exact q _ _ (Int.emod_nonneg _ (by omega)) (.inl (Int.emod_lt_of_pos _ hm0)) (kp.trans Kp.upd) (hD'.put hi)
        · walk_at "rd"
          refine ⟨_, _, rfl, fun k => ?_⟩
          walk_at "rd"
          exact q _ _ (Int.emod_nonneg _ (by omega)) (.inl (Int.emod_lt_of_pos _ hm0)) (kp.trans Kp.upd) (hD'.put hi)
theorem canD_pick {T : Pu.Tbs} (C : Can P w K mg base L2.CX0 2 "_law_pick" ["_law_draw_here", "_law_many"] spPick) : Can P w K mg base L2.CX0 2 "_law_pick" ["_law_draw_here", "_law_many"] (mkSp K T spPickD) := Can.imp C pick_imp
end
end Fk

set_option Elab.async false
set_option linter.all false
set_option maxRecDepth 100000
set_option maxHeartbeats 4000000
namespace Fk
open PySem PySem.Spec PyProof.Rows L2 Fg Pu
local macro_rules | `(tactic| walk_at "rs") => `(tactic| first | exact rs_str | exact rs_int | exact rs_bl | exact rs_non | exact rs_nd | exact rs_cell rfl | exact rs_cell app_last | exact rs_cell (app_at (by assumption)) | exact rs_cell (by assumption) | exact rs_cell app_last2 | exact base_rs (by assumption) | exact pln_rs (by assumption) | assumption)
local macro_rules | `(tactic| walk_at "dw1") => `(tactic| first
  | with_reducible refine w_seq ?_
  | with_reducible refine w_asg ?_
  | with_reducible refine w_gname ?_
  | ((with_reducible refine' w_retC ?h1 ?h2 ?_); (case h1 => exact rfl); (case h2 => first | exact rfl | exact app_last | exact app_at (by assumption) | assumption | exact app_last2))
  | with_reducible refine w_ret ?_
  | with_reducible refine w_retK ?_
  | with_reducible refine w_minKey ?_
  | with_reducible refine d_leIS ?_
  | with_reducible refine d_eqI0 ?_
  | ((with_reducible refine' w_gtup ?h ?_); (case h => exact rfl))
  | with_reducible refine w_gcons ?_
  | with_reducible refine w_gnil ?_
  | ((with_reducible refine' gv_tup ?h ?_); (case h => exact rfl))
  | with_reducible refine gv_cons ?_
  | with_reducible refine gv_nil ?_
  | ((with_reducible refine' gv_name ?h ?_); (case h => decide))
  | with_reducible refine w_retN ?_
  | with_reducible refine w_next ?_
  | with_reducible refine w_break ?_
  | with_reducible refine w_cont ?_
  | with_reducible refine w_drop ?_
  | with_reducible refine w_ifS ?_
  | with_reducible refine w_if ?_
  | with_reducible refine w_par ?_
  | with_reducible refine w_pair ?_
  | ((with_reducible refine' w_rng1 ?h ?_); (case h => omega))
  | ((with_reducible refine' w_rng2 ?h ?_); (case h => omega))
  | with_reducible refine w_test ?_
  | with_reducible refine w_tB ?_
  | with_reducible refine w_not ?_
  | with_reducible refine w_and ?_
  | with_reducible refine w_or ?_
  | with_reducible refine w_andV ?_
  | with_reducible refine w_orV ?_
  | with_reducible refine w_notV ?_
  | with_reducible refine w_nil ?_
  | with_reducible refine w_cons ?_
  | with_reducible refine w_call0 ?_
  | ((with_reducible refine' w_callX ?hE ?_); (case hE => assumption))
  | ((with_reducible refine' w_callS ?hW ?_); (case hW => assumption))
  | ((with_reducible refine' w_raise ?hE ?_); (case hE => assumption))
  | ((with_reducible refine' w_one ?h1 ?_); (case h1 => first | exact rfl | assumption))
  | with_reducible refine sp1_at ?_
  | with_reducible refine sp2_at ?_
  | with_reducible refine sp3_at ?_
  | with_reducible refine sp4_at ?_
  | with_reducible refine sp5_at ?_
  | with_reducible refine sp6_at ?_
  | with_reducible refine w_draw ?_
  | with_reducible refine w_cb ?_
  | with_reducible refine w_then ?_
  | with_reducible refine w_sl ?_
  | with_reducible refine w_nopart ?_
  | with_reducible refine w_part ?_
  | with_reducible refine w_op ?_
  | with_reducible refine w_un ?_
  | with_reducible refine w_chain ?_
  | ((with_reducible refine' w_var ?hv ?_); (case hv => exact rfl))
  | with_reducible refine w_cI ?_
  | with_reducible refine w_cB ?_
  | with_reducible refine w_cN ?_
  | with_reducible refine w_cS ?_
  | with_reducible refine w_cs ?_
  | with_reducible refine w_cR ?_
  | with_reducible refine w_yes ?_
  | ((with_reducible refine' w_fz1 ?h1 ?h2 ?_); (case h1 => exact rfl); (case h2 => first | exact rfl | exact app_last | exact app_at (by assumption) | assumption | exact app_last2))
  | with_reducible refine w_fz0 ?_
  | with_reducible refine w_dnewK ?_
  | with_reducible refine w_dnewT ?_
  | with_reducible refine w_bl ?_
  | with_reducible refine w_in ?_
  | with_reducible refine w_tru1 ?_
  | with_reducible refine w_tup ?_
  | with_reducible refine w_lst ?_
  | with_reducible refine w_lstC' ?_
  | ((with_reducible refine' w_mk ?h1 ?h2 ?_); (case h1 => first | exact rfl | assumption); (case h2 => exact small (Nat.le_of_ble_eq_true rfl)))
  | with_reducible refine w_strE ?_
  | ((with_reducible refine' w_lstE ?h1 ?_); (case h1 => walk_at "rs"))
  | with_reducible refine t_bl ?_
  | with_reducible refine t_non ?_
  | with_reducible refine t_int ?_
  | ((with_reducible refine' t_str ?h ?_); (case h => first | assumption | omega))
  | ((with_reducible refine' t_lst ?h ?_); (case h => walk_at "rs"))
  | ((with_reducible refine' t_tup ?h ?_); (case h => walk_at "rs"))
  | with_reducible refine w_bmS ?_
  | with_reducible refine w_bmL ?_
  | with_reducible refine d_addI ?_
  | with_reducible refine d_I0 ?_
  | with_reducible refine d_I0b ?_
  | with_reducible refine d_cmpI ?_
  | ((with_reducible refine' d_catS ?h ?_); (case h => first | exact small (by omega) | exact small (by simp; omega)))
  | ((with_reducible refine d_I ?hc ?_); (case hc => first | assumption | (show (0 : Int) < _; decide) | exact Or.inr ⟨by decide, by decide⟩ | exact Or.inr ⟨by omega, by omega⟩ | exact Or.inl ⟨by decide, by decide⟩ | exact (show CDivW _ _ from ⟨by decide, by decide +kernel⟩) | exact (show CPowW _ _ from ⟨by decide, by decide +kernel⟩) | (show (0 : Int) < _; omega)))
  | ((with_reducible refine' d_mulI ?h ?_); (case h => first | exact Or.inr ⟨by decide, by decide⟩ | exact Or.inr ⟨by omega, by omega⟩ | exact Or.inl ⟨by decide, by decide⟩ | exact Or.inl ⟨by omega, by omega⟩))
  | ((with_reducible refine' d_div ?h ?_); (case h => first | assumption | exact ⟨by decide, by decide⟩ | exact ⟨by omega, by omega⟩))
  | with_reducible refine d_neg ?_
  | ((with_reducible refine' d_lenS ?h ?_); (case h => first | exact small (by omega) | exact small (by simp; omega)))
  | ((with_reducible refine' d_lenL ?h ?_); (case h => walk_at "rs"))
  | ((with_reducible refine' d_lenT ?ht ?h ?_); (case h => walk_at "rs"); (case ht => first | exact Or.inl rfl | exact Or.inr rfl))
  | ((with_reducible refine' d_lenK ?h ?_); (case h => walk_at "rs"))
  | ((with_reducible refine' d_eqS ?_))
  | ((with_reducible refine' d_neS ?_))
  | ((with_reducible refine' d_eqI ?_))
  | ((with_reducible refine' d_neI ?_))
  | ((with_reducible refine' d_eqB ?_))
  | ((with_reducible refine' d_neB ?_))
  | with_reducible refine d_inS ?_
  | with_reducible refine d_ninS ?_
  | ((with_reducible refine' d_slS ?h ?_); (case h => first | exact small (by omega) | exact small (by simp; omega)))
  | ((with_reducible refine' d_slL ?h ?_); (case h => walk_at "rs"))
  | ((with_reducible refine' d_ixL' ?h1 ?h2 ?h3 ?_); (case h1 => walk_at "rs"); (case h2 => first | decide | omega); (case h3 => first | exact rfl | assumption))
  | ((with_reducible refine' d_ixT' ?ht ?h1 ?h2 ?h3 ?_); (case h1 => walk_at "rs"); (case ht => first | exact Or.inl rfl | exact Or.inr rfl); (case h2 => first | decide | omega); (case h3 => first | exact rfl | assumption))
  | ((with_reducible refine' d_isi ?h1 ?h2 ?h3 ?_); (case h1 => walk_at "rs"); (case h2 => first | exact rfl | assumption); (case h3 => first | exact kb_int_int | exact kb_int_bool | exact kb_int_str | exact kb_int_list | exact kb_int_tuple | exact kb_bool_int | exact kb_bool_bool | exact kb_bool_str | exact kb_bool_list | exact kb_bool_tuple | exact kb_str_int | exact kb_str_bool | exact kb_str_str | exact kb_str_list | exact kb_str_tuple | exact kb_NoneType_int | exact kb_NoneType_bool | exact kb_NoneType_str | exact kb_NoneType_list | exact kb_NoneType_tuple | exact kb_list_int | exact kb_list_bool | exact kb_list_str | exact kb_list_list | exact kb_list_tuple | exact kb_tuple_int | exact kb_tuple_bool | exact kb_tuple_str | exact kb_tuple_list | exact kb_tuple_tuple))
  | ((with_reducible refine' d_isStr ?h1 ?h2 ?_); (case h1 => walk_at "rs"); (case h2 => first | exact rfl | assumption))
  | ((with_reducible refine' d_isInt ?h1 ?h2 ?_); (case h1 => walk_at "rs"); (case h2 => first | exact rfl | assumption))
  | ((with_reducible refine' d_isBool ?h1 ?h2 ?_); (case h1 => walk_at "rs"); (case h2 => first | exact rfl | assumption))
  | ((with_reducible refine' d_isLst ?h1 ?h2 ?_); (case h1 => walk_at "rs"); (case h2 => first | exact rfl | assumption))
  | ((with_reducible refine' d_isTup ?h1 ?h2 ?_); (case h1 => walk_at "rs"); (case h2 => first | exact rfl | assumption))
  | ((with_reducible refine' d_isN ?h ?_); (case h => first | exact nr_non | exact nr_int | exact nr_str | exact nr_tk | exact nr_nd | exact nr_bl | exact nr_base (by assumption) | assumption))
  | ((with_reducible refine' d_notN ?h ?_); (case h => first | exact nr_non | exact nr_int | exact nr_str | exact nr_tk | exact nr_nd | exact nr_bl | exact nr_base (by assumption) | assumption))
  | with_reducible refine d_int ?_
  | with_reducible refine d_abs ?_
  | ((with_reducible refine' d_tupL ?h ?_); (case h => walk_at "rs"))
  | with_reducible refine d_tupT ?_
  | ((with_reducible refine' d_listL ?h ?_); (case h => walk_at "rs"))
  | ((with_reducible refine' d_listT ?ht ?h ?_); (case h => walk_at "rs"); (case ht => first | exact Or.inl rfl | exact Or.inr rfl))
  | ((with_reducible refine' d_append ?h1 ?h2 ?h3 ?_); (case h1 => first | exact rfl | exact app_last | exact app_at (by assumption) | assumption | exact app_last2); (case h2 => first | exact rfl | assumption); (case h3 => first | omega | (simp; omega)))
  | rw [clo_tk] | rw [clo_none] | rw [clo_str] | rw [clo_int] | rw [clo_node] | rw [clo_bl] | rw [clo_non] | rw [clo_nil] | rw [clo_ne (ne_at (by assumption))] | rw [clo_ne (ne_at' (by assumption))]
  | with_reducible refine w_T ?_
  | with_reducible refine w_F ?_
  | with_reducible refine w_nT ?_
  | with_reducible refine w_nF ?_
  | ((with_reducible refine And.intro ?h ?_); (case h => first | assumption | exact rfl | omega | exact ⟨_, rfl, rfl⟩ | exact isDraw_app (by assumption) | exact app_at (by assumption))))
local macro_rules | `(tactic| walk_at "dw") => `(tactic| ((try dsimp only); repeat (walk_at "dw1")))
open Rt

section
variable {P : Program} {w : World} {K : PySem.W.Frag} {T : Tbs} {mg : Str → Option Value} {base : Heap}
/-- the first that is no sign -/
def wrongAt (l : List Nat) : Option Nat := l.findIdx? fun c => !isSg c
def optD : Option Nat → D
  | none => .non
  | some i => .int (i : Nat)
abbrev sp_wrong_sign : SpD := sp1 fun a τ Q _ => ∃ l, a = .str l ∧ l.length ≤ 1000000 ∧ Q (optD (wrongAt l)) τ
theorem wrongAt_no {l : List Nat} (h : ∀ j, j < l.length → isSg (l.getD j 0) = true) : wrongAt l = none := by
  unfold wrongAt
  rw [List.findIdx?_eq_none_iff]
  intro x hx
  obtain ⟨j, hj, e⟩ := List.getElem_of_mem hx
  have := h j hj
  rw [List.getD_eq_getElem?_getD, List.getElem?_eq_getElem hj] at this
  simp at this
  rw [← e, this]
  rfl
theorem wrongAt_at {l : List Nat} {i : Nat} (hi : i < l.length) (h : ∀ j, j < i → isSg (l.getD j 0) = true) (hb : isSg (l.getD i 0) = false) : wrongAt l = some i := by
  unfold wrongAt
  rw [List.findIdx?_eq_some_iff_getElem]
  have gd : ∀ j (hj : j < l.length), l.getD j 0 = l[j] := fun j hj => by
    rw [List.getD_eq_getElem?_getD, List.getElem?_eq_getElem hj]
    rfl
  refine ⟨hi, by rw [← gd i hi, hb]; rfl, fun j hj => ?_⟩
  have := h j hj
  rw [gd j (by omega)] at this
  rw [this]
  decide

abbrev s_wrong_sign : Stmt := topS 11
abbrev N_wrong_sign : List Str := ["text", "at", "char"]
theorem sc_wrong_sign : FnScope ["text", "at", "char"] ["text"] (defScope s_wrong_sign) := ⟨rfl, rfl, rfl, by decide +kernel, rfl, by decide +kernel, by decide +kernel⟩
theorem can_wrong_sign (B : Bi mg) (F : Defd K mg "wrong_sign" s_wrong_sign ["text"]) (c_SIGNS : ∃ u, mg "SIGNS" = some u ∧ RelV (.str (S [46, 103, 114, 119])) u)  : Can P w K mg base L2.CX0 1 "wrong_sign" ["text"] (mkSp K T sp_wrong_sign) := by
  refine canD0 F sc_wrong_sign (fun ds τ Q E h => ?_) (fun f cdv A outer s H E ba ds τ Qd Ed hr h => ⟨_, (pss_cons (ps_for PassesOwn.never rfl (pi_enumS (by rfl) B.b_enumerate (pa_cons (pv 0) pa_nil)) (pg_tup rfl (pgs_cons (pg_name (i := 1) sc_wrong_sign.nd rfl (by first | exact Or.inl rfl | exact Or.inr rfl)) (pgs_cons (pg_name (i := 2) sc_wrong_sign.nd rfl (by first | exact Or.inl rfl | exact Or.inr rfl)) pgs_nil)))
    (pss_one (ps_if (pt_cmpR (op_ninU (hu64 hr)) (pv 2) (C8.pe_gc rfl c_SIGNS) (by rfl)) (pss_one (ps_ret (pv 1))) pss_nil)))
  (pss_one (ps_ret pe_non))), ?_⟩)
  · obtain ⟨_, rfl, _⟩ := h
    rfl
  · obtain ⟨v_text, rfl, h⟩ := h
    show WS K ba _ [some v_text, none, none] τ _
    dsimp only [cxOf, Cx.nox, Cx.wish, Cx.tr, Cx.suite, Cx.blk]
    obtain ⟨l, rfl, hl, q⟩ := h
    walk_at "dw"
    refine w_for (fun i ρ' τ' => ∃ o1 o2, ρ' = [some (.str l), o1, o2] ∧ τ' = τ ∧ ∀ j, j < i → isSg (l.getD j 0) = true) (w_iEnumS ?_)
    walk_at "dw"
    refine ⟨l, rfl, ⟨_, _, rfl, rfl, fun j hj => absurd hj (Nat.not_lt_zero _)⟩, fun _ _ _ _ _ => trivial, fun i ρ' τ' hi hJ => ?_, fun ρ' τ' hJ => ?_⟩
    · obtain ⟨o1, o2, rfl, rfl, hs⟩ := hJ
      walk_at "dw"
      rw [sgl]
      refine w_iteNB (fun h => ?_) (fun h => ?_)
      · walk_at "dw"
        rw [wrongAt_at hi hs h] at q
        exact out_same rfl q
      · walk_at "dw"
        exact ⟨_, _, rfl, rfl, fun j hj => by
          by_cases e : j = i
          · rw [e]; exact h
          · exact hs j (by omega)⟩
    · obtain ⟨o1, o2, rfl, rfl, hs⟩ := hJ
      walk_at "dw"
      rw [wrongAt_no hs] at q
      exact out_same rfl q
/-- how a round is refused -/
def badRound : D → Option Int
  | .str l => if 1 ≤ l.length ∧ l.length ≤ 24 then (wrongAt l).map Int.ofNat else some (-1)
  | _ => some (-1)
def fine (a : D) : Prop := a.base = true ∧ ∀ l, a = .str l → l.length ≤ 1000000
abbrev sp_check_round (A : Addr) : SpD := sp1 fun a τ Q E => fine a ∧ match badRound a with
  | none => Q .non τ
  | some k => E A ["number"] [.int k] τ

abbrev s_check_round : Stmt := topS 12
abbrev N_check_round : List Str := ["row", "at"]
theorem sc_check_round : FnScope ["row", "at"] ["row"] (defScope s_check_round) := ⟨rfl, rfl, rfl, by decide +kernel, rfl, by decide +kernel, by decide +kernel⟩
theorem can_check_round (B : Bi mg) (F : Defd K mg "check_round" s_check_round ["row"]) {A_BadRound : Addr} (E_BadRound : Err P w K mg base "BadRound" A_BadRound "number") (c_MOST_BEATS : ∃ u, mg "MOST_BEATS" = some u ∧ RelV (.int 24) u) (C_wrong_sign : Can P w K mg base L2.CX0 1 "wrong_sign" ["text"] (mkSp K T sp_wrong_sign))  : Can P w K mg base (L2.CX P w) 3 "check_round" ["row"] (mkSp K T (sp_check_round A_BadRound)) := by
  refine canDX F sc_check_round (fun ds τ Q E h => ?_) (fun f cdv A outer s H E ba ds τ Qd Ed hr h hE => ⟨_, (pss_cons (ps_if (PW.pt (pw_or (pt_not (pt_tru (pe_callB call_isi (by rfl) B.b_isinstance boot_isinstance (pa_cons (pv 0) (pa_cons (pe_bltn (v := .ty "str") (by rfl) B.b_str boot_str rfl) pa_nil))))) (pw_or1 (pt_not (pt_chain (op_leU (hu64 hr)) (op_leU (hu64 hr)) pe_int (pe_callB call_lenU (by rfl) B.b_len boot_len (pa_cons (pv 0) pa_nil)) (C8.pe_gc rfl c_MOST_BEATS)))))) (pss_one (ps_raise rfl (takes_of rfl rfl rfl rfl) (pmk_err E_BadRound hr (by decide) rfl (pa_cons (pe_un un_neg pe_int) pa_nil)))) pss_nil)
  (pss_cons (ps_set (i := 1) sc_check_round.nd rfl (by first | exact Or.inl rfl | exact Or.inr rfl) (pe_can C_wrong_sign hr (by decide) rfl (pa_cons (pv 0) pa_nil)))
  (pss_one (ps_if (pt_cmpR op_notN1 (pv 1) pe_non (nomark _)) (pss_one (ps_raise rfl (takes_of rfl rfl rfl rfl) (pmk_err E_BadRound hr (by decide) rfl (pa_cons (pv 1) pa_nil)))) pss_nil)))), ?_⟩)
  · obtain ⟨_, rfl, _⟩ := h
    rfl
  · obtain ⟨v_row, rfl, h⟩ := h
    show WS K ba _ [some v_row, none] τ _
    dsimp only [cxOf, Cx.nox, Cx.wish, Cx.tr, Cx.suite, Cx.blk]
    obtain ⟨⟨hb, hl⟩, h⟩ := h
    walk_at "dw"
    have rz : ∀ k, (badRound v_row = some k) → Ed A_BadRound ["number"] [.int k] τ := fun k e => by
      rw [e] at h
      exact h
    refine w_iteNB (fun hs => ?_) (fun hs => ?_)
    · walk_at "dw"
      refine out_raise (rz _ ?_)
      cases v_row <;> first | rfl | cases hs
    obtain ⟨l, rfl⟩ : ∃ l, v_row = .str l := by
      cases v_row <;> first | exact ⟨_, rfl⟩ | cases hs
    have hl := hl l rfl
    walk_at "dw"
    refine w_ite (fun h1 => ?_) (fun h1 => ?_)
    · walk_at "dw"
      refine w_iteN (fun h2 => ?_) (fun h2 => ?_)
      · walk_at "dw"
        refine out_raise (rz _ (if_neg (by omega)))
      · walk_at "dw"
        have e : badRound (.str l) = (wrongAt l).map Int.ofNat := if_pos (by omega)
        rw [e] at h
        walk_at "dw"
        cases hw : wrongAt l with
        | none =>
          rw [hw] at h
          walk_at "dw"
          refine w_F' rfl ?_
          walk_at "dw"
          exact out_same rfl h
        | some k =>
          rw [hw] at h
          walk_at "dw"
          refine w_T' rfl ?_
          walk_at "dw"
          exact out_raise h
    · walk_at "dw"
      refine out_raise (rz _ (if_neg (by omega)))
end
end Fk

set_option Elab.async false
set_option linter.all false
set_option maxRecDepth 100000
set_option maxHeartbeats 4000000
namespace Fk
open PySem PySem.Spec PyProof.Rows L2 Fg Pu
local macro_rules | `(tactic| walk_at "rs") => `(tactic| first | exact rs_str | exact rs_int | exact rs_bl | exact rs_non | exact rs_nd | exact rs_cell rfl | exact rs_cell app_last | exact rs_cell (app_at (by assumption)) | exact rs_cell (by assumption) | exact rs_cell app_last2 | exact base_rs (by assumption) | exact pln_rs (by assumption) | assumption)
local macro_rules | `(tactic| walk_at "dw1") => `(tactic| first
  | with_reducible refine w_seq ?_
  | with_reducible refine w_asg ?_
  | with_reducible refine w_gname ?_
  | ((with_reducible refine' w_retC ?h1 ?h2 ?_); (case h1 => exact rfl); (case h2 => first | exact rfl | exact app_last | exact app_at (by assumption) | assumption | exact app_last2))
  | with_reducible refine w_ret ?_
  | with_reducible refine w_retK ?_
  | with_reducible refine w_minKey ?_
  | with_reducible refine d_leIS ?_
  | with_reducible refine d_eqI0 ?_
  | ((with_reducible refine' w_gtup ?h ?_); (case h => exact rfl))
  | with_reducible refine w_gcons ?_
  | with_reducible refine w_gnil ?_
  | ((with_reducible refine' gv_tup ?h ?_); (case h => exact rfl))
  | with_reducible refine gv_cons ?_
  | with_reducible refine gv_nil ?_
  | ((with_reducible refine' gv_name ?h ?_); (case h => decide))
  | with_reducible refine w_retN ?_
  | with_reducible refine w_next ?_
  | with_reducible refine w_break ?_
  | with_reducible refine w_cont ?_
  | with_reducible refine w_drop ?_
  | with_reducible refine w_ifS ?_
  | with_reducible refine w_if ?_
  | with_reducible refine w_par ?_
  | with_reducible refine w_pair ?_
  | ((with_reducible refine' w_rng1 ?h ?_); (case h => omega))
  | ((with_reducible refine' w_rng2 ?h ?_); (case h => omega))
  | with_reducible refine w_test ?_
  | with_reducible refine w_tB ?_
  | with_reducible refine w_not ?_
  | with_reducible refine w_and ?_
  | with_reducible refine w_or ?_
  | with_reducible refine w_andV ?_
  | with_reducible refine w_orV ?_
  | with_reducible refine w_notV ?_
  | with_reducible refine w_nil ?_
  | with_reducible refine w_cons ?_
  | with_reducible refine w_call0 ?_
  | ((with_reducible refine' w_callX ?hE ?_); (case hE => assumption))
  | ((with_reducible refine' w_callS ?hW ?_); (case hW => assumption))
  | ((with_reducible refine' w_raise ?hE ?_); (case hE => assumption))
  | ((with_reducible refine' w_one ?h1 ?_); (case h1 => first | exact rfl | assumption))
  | with_reducible refine sp1_at ?_
  | with_reducible refine sp2_at ?_
  | with_reducible refine sp3_at ?_
  | with_reducible refine sp4_at ?_
  | with_reducible refine sp5_at ?_
  | with_reducible refine sp6_at ?_
  | with_reducible refine w_draw ?_
  | with_reducible refine w_cb ?_
  | with_reducible refine w_then ?_
  | with_reducible refine w_sl ?_
  | with_reducible refine w_nopart ?_
  | with_reducible refine w_part ?_
  | with_reducible refine w_op ?_
  | with_reducible refine w_un ?_
  | with_reducible refine w_chain ?_
  | ((with_reducible refine' w_var ?hv ?_); (case hv => exact rfl))
  | with_reducible refine w_cI ?_
  | with_reducible refine w_cB ?_
  | with_reducible refine w_cN ?_
  | with_reducible refine w_cS ?_
  | with_reducible refine w_cs ?_
  | with_reducible refine w_cR ?_
  | with_reducible refine w_yes ?_
  | ((with_reducible refine' w_fz1 ?h1 ?h2 ?_); (case h1 => exact rfl); (case h2 => first | exact rfl | exact app_last | exact app_at (by assumption) | assumption | exact app_last2))
  | with_reducible refine w_fz0 ?_
  | with_reducible refine w_dnewK ?_
  | with_reducible refine w_dnewT ?_
  | with_reducible refine w_bl ?_
  | with_reducible refine w_in ?_
  | with_reducible refine w_tru1 ?_
  | with_reducible refine w_tup ?_
  | with_reducible refine w_lst ?_
  | with_reducible refine w_lstC' ?_
  | ((with_reducible refine' w_mk ?h1 ?h2 ?_); (case h1 => first | exact rfl | assumption); (case h2 => exact small (Nat.le_of_ble_eq_true rfl)))
  | with_reducible refine w_strE ?_
  | ((with_reducible refine' w_lstE ?h1 ?_); (case h1 => walk_at "rs"))
  | with_reducible refine t_bl ?_
  | with_reducible refine t_non ?_
  | with_reducible refine t_int ?_
  | ((with_reducible refine' t_str ?h ?_); (case h => first | assumption | omega))
  | ((with_reducible refine' t_lst ?h ?_); (case h => walk_at "rs"))
  | ((with_reducible refine' t_tup ?h ?_); (case h => walk_at "rs"))
  | with_reducible refine w_bmS ?_
  | with_reducible refine w_bmL ?_
  | with_reducible refine d_addI ?_
  | with_reducible refine d_I0 ?_
  | with_reducible refine d_I0b ?_
  | with_reducible refine d_cmpI ?_
  | ((with_reducible refine' d_catS ?h ?_); (case h => first | exact small (by omega) | exact small (by simp; omega)))
  | ((with_reducible refine d_I ?hc ?_); (case hc => first | assumption | (show (0 : Int) < _; decide) | exact Or.inr ⟨by decide, by decide⟩ | exact Or.inr ⟨by omega, by omega⟩ | exact Or.inl ⟨by decide, by decide⟩ | exact (show CDivW _ _ from ⟨by decide, by decide +kernel⟩) | exact (show CPowW _ _ from ⟨by decide, by decide +kernel⟩) | (show (0 : Int) < _; omega)))
  | ((with_reducible refine' d_mulI ?h ?_); (case h => first | exact Or.inr ⟨by decide, by decide⟩ | exact Or.inr ⟨by omega, by omega⟩ | exact Or.inl ⟨by decide, by decide⟩ | exact Or.inl ⟨by omega, by omega⟩))
  | ((with_reducible refine' d_div ?h ?_); (case h => first | assumption | exact ⟨by decide, by decide⟩ | exact ⟨by omega, by omega⟩))
  | with_reducible refine d_neg ?_
  | ((with_reducible refine' d_lenS ?h ?_); (case h => first | exact small (by omega) | exact small (by simp; omega)))
  | ((with_reducible refine' d_lenL ?h ?_); (case h => walk_at "rs"))
  | ((with_reducible refine' d_lenT ?ht ?h ?_); (case h => walk_at "rs"); (case ht => first | exact Or.inl rfl | exact Or.inr rfl))
  | ((with_reducible refine' d_lenK ?h ?_); (case h => walk_at "rs"))
  | ((with_reducible refine' d_eqS ?_))
  | ((with_reducible refine' d_neS ?_))
  | ((with_reducible refine' d_eqI ?_))
  | ((with_reducible refine' d_neI ?_))
  | ((with_reducible refine' d_eqB ?_))
  | ((with_reducible refine' d_neB ?_))
  | with_reducible refine d_inS ?_
  | with_reducible refine d_ninS ?_
  | ((with_reducible refine' d_slS ?h ?_); (case h => first | exact small (by omega) | exact small (by simp; omega)))
  | ((with_reducible refine' d_slL ?h ?_); (case h => walk_at "rs"))
  | ((with_reducible refine' d_ixL' ?h1 ?h2 ?h3 ?_); (case h1 => walk_at "rs"); (case h2 => first | decide | omega); (case h3 => first | exact rfl | assumption))
  | ((with_reducible refine' d_ixT' ?ht ?h1 ?h2 ?h3 ?_); (case h1 => walk_at "rs"); (case ht => first | exact Or.inl rfl | exact Or.inr rfl); (case h2 => first | decide | omega); (case h3 => first | exact rfl | assumption))
  | ((with_reducible refine' d_isi ?h1 ?h2 ?h3 ?_); (case h1 => walk_at "rs"); (case h2 => first | exact rfl | assumption); (case h3 => first | exact kb_int_int | exact kb_int_bool | exact kb_int_str | exact kb_int_list | exact kb_int_tuple | exact kb_bool_int | exact kb_bool_bool | exact kb_bool_str | exact kb_bool_list | exact kb_bool_tuple | exact kb_str_int | exact kb_str_bool | exact kb_str_str | exact kb_str_list | exact kb_str_tuple | exact kb_NoneType_int | exact kb_NoneType_bool | exact kb_NoneType_str | exact kb_NoneType_list | exact kb_NoneType_tuple | exact kb_list_int | exact kb_list_bool | exact kb_list_str | exact kb_list_list | exact kb_list_tuple | exact kb_tuple_int | exact kb_tuple_bool | exact kb_tuple_str | exact kb_tuple_list | exact kb_tuple_tuple))
  | ((with_reducible refine' d_isStr ?h1 ?h2 ?_); (case h1 => walk_at "rs"); (case h2 => first | exact rfl | assumption))
  | ((with_reducible refine' d_isInt ?h1 ?h2 ?_); (case h1 => walk_at "rs"); (case h2 => first | exact rfl | assumption))
  | ((with_reducible refine' d_isBool ?h1 ?h2 ?_); (case h1 => walk_at "rs"); (case h2 => first | exact rfl | assumption))
  | ((with_reducible refine' d_isLst ?h1 ?h2 ?_); (case h1 => walk_at "rs"); (case h2 => first | exact rfl | assumption))
  | ((with_reducible refine' d_isTup ?h1 ?h2 ?_); (case h1 => walk_at "rs"); (case h2 => first | exact rfl | assumption))
  | ((with_reducible refine' d_isN ?h ?_); (case h => first | exact nr_non | exact nr_int | exact nr_str | exact nr_tk | exact nr_nd | exact nr_bl | exact nr_base (by assumption) | assumption))
  | ((with_reducible refine' d_notN ?h ?_); (case h => first | exact nr_non | exact nr_int | exact nr_str | exact nr_tk | exact nr_nd | exact nr_bl | exact nr_base (by assumption) | assumption))
  | with_reducible refine d_int ?_
  | with_reducible refine d_abs ?_
  | ((with_reducible refine' d_tupL ?h ?_); (case h => walk_at "rs"))
  | with_reducible refine d_tupT ?_
  | ((with_reducible refine' d_listL ?h ?_); (case h => walk_at "rs"))
  | ((with_reducible refine' d_listT ?ht ?h ?_); (case h => walk_at "rs"); (case ht => first | exact Or.inl rfl | exact Or.inr rfl))
  | ((with_reducible refine' d_append ?h1 ?h2 ?h3 ?_); (case h1 => first | exact rfl | exact app_last | exact app_at (by assumption) | assumption | exact app_last2); (case h2 => first | exact rfl | assumption); (case h3 => first | omega | (simp; omega)))
  | rw [clo_tk] | rw [clo_none] | rw [clo_str] | rw [clo_int] | rw [clo_node] | rw [clo_bl] | rw [clo_non] | rw [clo_nil] | rw [clo_ne (ne_at (by assumption))] | rw [clo_ne (ne_at' (by assumption))]
  | with_reducible refine w_T ?_
  | with_reducible refine w_F ?_
  | with_reducible refine w_nT ?_
  | with_reducible refine w_nF ?_
  | ((with_reducible refine And.intro ?h ?_); (case h => first | assumption | exact rfl | omega | exact ⟨_, rfl, rfl⟩ | exact isDraw_app (by assumption) | exact app_at (by assumption))))
local macro_rules | `(tactic| walk_at "dw") => `(tactic| ((try dsimp only); repeat (walk_at "dw1")))
open Rt

section
variable {P : Program} {w : World} {K : PySem.W.Frag} {T : Tbs} {mg : Str → Option Value} {base : Heap}
theorem str_dgs : ∀ t : Fin 100, (toString ((t.val : Nat) : Int) : Str).cps.toList = digs t.val := by decide +kernel
theorem str_nat {n : Nat} (h : n < 100) : (toString ((n : Nat) : Int) : Str).cps.toList = digs n := str_dgs ⟨n, h⟩
theorem digs_len (n : Nat) : (digs n).length ≤ 2 := by
  unfold digs
  split <;> simp
theorem keyS {l : List Nat} : (D.str l).key = some (.inr (S l)) := rfl
/-- the n-th way to write r as one item -/
def itemT (B : List Nat → List Nat) (r : List Nat) (n : Nat) : List Nat := digs n ++ (if (r.take (r.length / n)).length = 1 then r.take (r.length / n) else 40 :: (B (r.take (r.length / n)) ++ [41]))
/-- all of them -/
def IT (B : List Nat → List Nat) (r : List Nat) (m : Nat) (ts : List (List Nat)) : Prop := ∀ t, t ∈ ts ↔ ∃ n, 2 ≤ n ∧ n < m ∧ rep n (r.take (r.length / n)) = r ∧ t = itemT B r n
def Beg (kvs : List (Key × D)) (B : List Nat → List Nat) (r : List Nat) : Prop := ∀ k, 1 ≤ k → k < r.length → valD kvs (.inr (S (r.take k))) = some (.str (B (r.take k))) ∧ (B (r.take k)).length ≤ 24
abbrev sp_item_texts : SpD := sp2 fun a d τ Q _ => ∃ r n kvs B, a = .str r ∧ d = .tk n ∧ τ[n]? = some (.dic kvs) ∧ (1 ≤ r.length ∧ r.length ≤ 24) ∧ Beg kvs B r ∧
  ∀ ts : List (List Nat), (if r.length = 1 then ts = [r] else IT B r (r.length + 1) ts) → ts.length ≤ 24 → (∀ t ∈ ts, t.length ≤ 28) → Q (.tk τ.length) (τ ++ [Cl.lst (ts.map D.str)])

abbrev s_item_texts : Stmt := topS 14
abbrev N_item_texts : List Str := ["piece", "texts", "found", "times", "unit"]
theorem sc_item_texts : FnScope ["piece", "texts", "found", "times", "unit"] ["piece", "texts"] (defScope s_item_texts) := ⟨rfl, rfl, rfl, by decide +kernel, rfl, by decide +kernel, by decide +kernel⟩
theorem can_item_texts (B : Bi mg) (F : Defd K mg "item_texts" s_item_texts ["piece", "texts"])   : Can P w K mg base L2.CX0 1 "item_texts" ["piece", "texts"] (mkSp K T sp_item_texts) := by
  refine canD0 F sc_item_texts (fun ds τ Q E h => ?_) (fun f cdv A outer s H E ba ds τ Qd Ed hr h => ⟨_, (pss_cons (ps_if (pt_cmpR (op_eqP (hu64 hr)) (pe_callB call_lenU (by rfl) B.b_len boot_len (pa_cons (pv 0) pa_nil)) pe_int (nomark _)) (pss_one (ps_retK (pe_lstC (pa_cons (pv 0) pa_nil)))) pss_nil)
  (pss_cons (ps_set (i := 2) sc_item_texts.nd rfl (by first | exact Or.inl rfl | exact Or.inr rfl) (pe_lstC pa_nil))
  (pss_cons (ps_for PassesOwn.never rfl (pi_range2 rfl B.b_range (pa_cons pe_int (pa_cons (pe_op op_addU (pe_callB call_lenU (by rfl) B.b_len boot_len (pa_cons (pv 0) pa_nil)) pe_int) pa_nil))) (pg_name (i := 3) sc_item_texts.nd rfl (by first | exact Or.inl rfl | exact Or.inr rfl))
    (pss_cons (ps_set (i := 4) sc_item_texts.nd rfl (by first | exact Or.inl rfl | exact Or.inr rfl) (pe_slice sl_U (pv 0) po_none (po_some (pe_op op_divU (pe_callB call_lenU (by rfl) B.b_len boot_len (pa_cons (pv 0) pa_nil)) (pv 3)))))
  (pss_one (ps_if (pt_cmpR (op_eqP (hu64 hr)) (pe_op op_mulU (pv 4) (pv 3)) (pv 0) (nomark _)) (pss_one (ps_expr (pe_bm PySem.F.plainAttrs_list PySem.F.slot_list_append PySem.F.type_list_append mt_append (pv 2) (pa_cons (pe_op op_addU (pe_callTy call_str_int (by rfl) B.b_str boot_str (pa_cons (pv 3) pa_nil)) (pe_ifExp (pt_cmpR (op_eqP (hu64 hr)) (pe_callB call_lenU (by rfl) B.b_len boot_len (pa_cons (pv 4) pa_nil)) pe_int (nomark _)) (pv 4) (pe_op op_addU (pe_op op_addU (pe_strL [40] (by decide +kernel)) (pe_ix (ix_U (hu1 hr)) (pv 1) (pv 4) (fun _ _ => rfl))) (pe_strL [41] (by decide +kernel))))) pa_nil)))) pss_nil))))
  (pss_one (ps_retK (pv 2)))))), ?_⟩)
  · obtain ⟨_, _, rfl, _⟩ := h
    rfl
  · obtain ⟨v_piece, v_texts, rfl, h⟩ := h
    show WS K ba _ [some v_piece, some v_texts, none, none, none] τ _
    dsimp only [cxOf, Cx.nox, Cx.wish, Cx.tr, Cx.suite, Cx.blk]
    obtain ⟨r, n, kvs, B, rfl, rfl, hn, ⟨h1, h24⟩, hB, q⟩ := h
    walk_at "dw"
    refine w_ite (fun h => ?_) (fun h => ?_)
    · walk_at "dw"
      have hl : r.length = 1 := by omega
      exact out_cell (q [r] (by rw [if_pos hl]) (by simp) (fun t ht => by simp at ht; rw [ht]; omega))
    have hl : ¬ r.length = 1 := by omega
    walk_at "dw"
    refine w_for (fun i ρ' τ' => ∃ (ts : List (List Nat)) (o3 o4 : Option D), ρ' = [some (.str r), some (.tk n), some (.tk τ.length), o3, o4] ∧ τ' = τ ++ [.lst (ts.map .str)] ∧ IT B r (2 + i) ts ∧ ts.length ≤ i ∧ ∀ t ∈ ts, t.length ≤ 28) (w_iRng2 ?_)
    walk_at "dw"
    have e2 : ((r.length : Int) + 1 - 2).toNat = r.length - 1 := by omega
    rw [e2]
    refine ⟨⟨[], none, none, rfl, rfl, fun t => ⟨(fun h => by cases h), (fun ⟨n, h1, h2, _⟩ => by omega)⟩, Nat.le_refl _, (fun t h => by cases h)⟩, fun _ _ _ _ _ => trivial, fun i ρ' τ' hi hJ => ?_, fun ρ' τ' hJ => ?_⟩
    · obtain ⟨ts, o3, o4, rfl, rfl, hT, hc, hb⟩ := hJ
      walk_at "dw"
      obtain ⟨u, hu⟩ : ∃ u, u = r.take (r.length / (2 + i)) := ⟨_, rfl⟩
      have eu : cutL r none (some ((r.length : Int) / (2 + (i : Int)))) = u := by
        rw [cut_to (Int.ediv_nonneg (by omega) (by omega)), hu]
        rw [show (2 : Int) + (i : Int) = ((2 + i : Nat) : Int) by omega, ← Int.natCast_ediv, Int.toNat_natCast]
      rw [eu]
      have lu : u.length = r.length / (2 + i) := by
        rw [hu, List.length_take]
        exact Nat.min_eq_left (Nat.div_le_self _ _)
      have lu1 : 1 ≤ u.length := by
        rw [lu]
        exact (Nat.one_le_div_iff (by omega)).mpr (by omega)
      have lu2 : u.length ≤ 12 := by
        rw [lu]
        have : r.length / (2 + i) ≤ r.length / 2 := Nat.div_le_div_left (by omega) (by omega)
        omega
      have lu3 : u.length < r.length := by
        rw [lu]
        exact Nat.div_lt_self (by omega) (by omega)
      have n2 : ((2 : Int) + (i : Int)).toNat = 2 + i := by omega
      refine d_repS (by omega) (by omega) (small (by
        rw [n2]
        have := Nat.mul_le_mul lu2 (show 2 + i ≤ 24 by omega)
        omega)) ?_
      have er : (List.replicate ((2 : Int) + (i : Int)).toNat u).flatten = rep (2 + i) u := by rw [n2]; rfl
      rw [er]
      walk_at "dw"
      refine w_ite (fun he => ?_) (fun he => ?_)
      · walk_at "dw"
        refine d_str (by
          rw [show ((2 : Int) + (i : Int)).natAbs = 2 + i by omega]
          exact Nat.lt_of_le_of_lt (Nat.log2_le_self _) (by omega)) ?_
        rw [show (2 : Int) + (i : Int) = ((2 + i : Nat) : Int) by omega, str_nat (show 2 + i < 100 by omega)]
        have hd := digs_len (2 + i)
        walk_at "dw"
        have add : ∀ t : List Nat, t = itemT B r (2 + i) → t.length ≤ 28 → ∃ (ts' : List (List Nat)) (o3' o4' : Option D), (([some (D.str r), some (D.tk n), some (D.tk τ.length), o3, o4] : Rho).set 3 (some (D.int (2 + (i : Int))))).set 4 (some (D.str u)) = [some (D.str r), some (D.tk n), some (D.tk τ.length), o3', o4'] ∧ (τ ++ [Cl.lst (ts.map D.str)]).set τ.length (Cl.lst (ts.map D.str ++ [D.str t])) = τ ++ [Cl.lst (ts'.map D.str)] ∧ IT B r (2 + (i + 1)) ts' ∧ ts'.length ≤ i + 1 ∧ ∀ t ∈ ts', t.length ≤ 28 := fun t ht hl => by
          refine ⟨ts ++ [t], _, _, rfl, by rw [set_last, List.map_append]; rfl, fun t' => ?_, by rw [List.length_append, List.length_singleton]; omega, fun t' h' => ?_⟩
          · rw [List.mem_append, List.mem_singleton, hT t']
            constructor
            · rintro (⟨n, a1, a2, a3, a4⟩ | rfl)
              · exact ⟨n, a1, by omega, a3, a4⟩
              · exact ⟨2 + i, by omega, by omega, by rw [← hu]; exact he, ht⟩
            · rintro ⟨n, a1, a2, a3, a4⟩
              by_cases hn : n = 2 + i
              · exact .inr (by rw [a4, ht, hn])
              · exact .inl ⟨n, a1, by omega, a3, a4⟩
          · rcases List.mem_append.mp h' with h' | h'
            · exact hb t' h'
            · rw [List.mem_singleton.mp h']
              exact hl
        refine w_ite (fun h1u => ?_) (fun h1u => ?_)
        · have hc1 : u.length = 1 := by omega
          walk_at "dw"
          exact add _ (by unfold itemT; rw [← hu, if_pos hc1]) (by rw [List.length_append]; omega)
        · have hc1 : ¬ u.length = 1 := by omega
          walk_at "dw"
          have hbu := hB (r.length / (2 + i)) (by omega) (by omega)
          rw [← hu] at hbu
          refine d_ixDk (rs_cell (app_at hn)) keyS hbu.1 ?_
          have hl24 := hbu.2
          walk_at "dw"
          exact add _ (by unfold itemT; rw [← hu, if_neg hc1]; simp) (by simp only [List.length_append, List.length_cons, List.length_nil]; omega)
      · walk_at "dw"
        refine ⟨ts, _, _, rfl, rfl, fun t' => ?_, by omega, hb⟩
        rw [hT t']
        constructor
        · rintro ⟨n, a1, a2, a3, a4⟩
          exact ⟨n, a1, by omega, a3, a4⟩
        · rintro ⟨n, a1, a2, a3, a4⟩
          have hn : n ≠ 2 + i := fun z => by
            subst z
            rw [← hu] at a3
            exact he a3
          exact ⟨n, a1, by omega, a3, a4⟩
    · obtain ⟨ts, o3, o4, rfl, rfl, hT, hc, hb⟩ := hJ
      walk_at "dw"
      refine out_cell (q ts ?_ (by omega) hb)
      rw [if_neg hl]
      rwa [show 2 + (r.length - 1) = r.length + 1 by omega] at hT
end
end Fk

set_option Elab.async false
set_option linter.all false
set_option maxRecDepth 100000
set_option maxHeartbeats 4000000
namespace Fk
open PySem PySem.Spec PyProof.Rows L2 Fg Pu
local macro_rules | `(tactic| walk_at "rs") => `(tactic| first | exact rs_str | exact rs_int | exact rs_bl | exact rs_non | exact rs_nd | exact rs_cell rfl | exact rs_cell app_last | exact rs_cell (app_at (by assumption)) | exact rs_cell (by assumption) | exact rs_cell app_last2 | exact base_rs (by assumption) | exact pln_rs (by assumption) | assumption)
local macro_rules | `(tactic| walk_at "dw1") => `(tactic| first
  | with_reducible refine w_seq ?_
  | with_reducible refine w_asg ?_
  | with_reducible refine w_gname ?_
  | ((with_reducible refine' w_retC ?h1 ?h2 ?_); (case h1 => exact rfl); (case h2 => first | exact rfl | exact app_last | exact app_at (by assumption) | assumption | exact app_last2))
  | with_reducible refine w_ret ?_
  | with_reducible refine w_retK ?_
  | with_reducible refine w_minKey ?_
  | with_reducible refine d_leIS ?_
  | with_reducible refine d_eqI0 ?_
  | ((with_reducible refine' w_gtup ?h ?_); (case h => exact rfl))
  | with_reducible refine w_gcons ?_
  | with_reducible refine w_gnil ?_
  | ((with_reducible refine' gv_tup ?h ?_); (case h => exact rfl))
  | with_reducible refine gv_cons ?_
  | with_reducible refine gv_nil ?_
  | ((with_reducible refine' gv_name ?h ?_); (case h => decide))
  | with_reducible refine w_retN ?_
  | with_reducible refine w_next ?_
  | with_reducible refine w_break ?_
  | with_reducible refine w_cont ?_
  | with_reducible refine w_drop ?_
  | with_reducible refine w_ifS ?_
  | with_reducible refine w_if ?_
  | with_reducible refine w_par ?_
  | with_reducible refine w_pair ?_
  | ((with_reducible refine' w_rng1 ?h ?_); (case h => omega))
  | ((with_reducible refine' w_rng2 ?h ?_); (case h => omega))
  | with_reducible refine w_test ?_
  | with_reducible refine w_tB ?_
  | with_reducible refine w_not ?_
  | with_reducible refine w_and ?_
  | with_reducible refine w_or ?_
  | with_reducible refine w_andV ?_
  | with_reducible refine w_orV ?_
  | with_reducible refine w_notV ?_
  | with_reducible refine w_nil ?_
  | with_reducible refine w_cons ?_
  | with_reducible refine w_call0 ?_
  | ((with_reducible refine' w_callX ?hE ?_); (case hE => assumption))
  | ((with_reducible refine' w_callS ?hW ?_); (case hW => assumption))
  | ((with_reducible refine' w_raise ?hE ?_); (case hE => assumption))
  | ((with_reducible refine' w_one ?h1 ?_); (case h1 => first | exact rfl | assumption))
  | with_reducible refine sp1_at ?_
  | with_reducible refine sp2_at ?_
  | with_reducible refine sp3_at ?_
  | with_reducible refine sp4_at ?_
  | with_reducible refine sp5_at ?_
  | with_reducible refine sp6_at ?_
  | with_reducible refine w_draw ?_
  | with_reducible refine w_cb ?_
  | with_reducible refine w_then ?_
  | with_reducible refine w_sl ?_
  | with_reducible refine w_nopart ?_
  | with_reducible refine w_part ?_
  | with_reducible refine w_op ?_
  | with_reducible refine w_un ?_
  | with_reducible refine w_chain ?_
  | ((with_reducible refine' w_var ?hv ?_); (case hv => exact rfl))
  | with_reducible refine w_cI ?_
  | with_reducible refine w_cB ?_
  | with_reducible refine w_cN ?_
  | with_reducible refine w_cS ?_
  | with_reducible refine w_cs ?_
  | with_reducible refine w_cR ?_
  | with_reducible refine w_yes ?_
  | ((with_reducible refine' w_fz1 ?h1 ?h2 ?_); (case h1 => exact rfl); (case h2 => first | exact rfl | exact app_last | exact app_at (by assumption) | assumption | exact app_last2))
  | with_reducible refine w_fz0 ?_
  | with_reducible refine w_dnewK ?_
  | with_reducible refine w_dnewT ?_
  | with_reducible refine w_bl ?_
  | with_reducible refine w_in ?_
  | with_reducible refine w_tru1 ?_
  | with_reducible refine w_tup ?_
  | with_reducible refine w_lst ?_
  | with_reducible refine w_lstC' ?_
  | ((with_reducible refine' w_mk ?h1 ?h2 ?_); (case h1 => first | exact rfl | assumption); (case h2 => exact small (Nat.le_of_ble_eq_true rfl)))
  | with_reducible refine w_strE ?_
  | ((with_reducible refine' w_lstE ?h1 ?_); (case h1 => walk_at "rs"))
  | with_reducible refine t_bl ?_
  | with_reducible refine t_non ?_
  | with_reducible refine t_int ?_
  | ((with_reducible refine' t_str ?h ?_); (case h => first | assumption | omega))
  | ((with_reducible refine' t_lst ?h ?_); (case h => walk_at "rs"))
  | ((with_reducible refine' t_tup ?h ?_); (case h => walk_at "rs"))
  | with_reducible refine w_bmS ?_
  | with_reducible refine w_bmL ?_
  | with_reducible refine d_addI ?_
  | with_reducible refine d_I0 ?_
  | with_reducible refine d_I0b ?_
  | with_reducible refine d_cmpI ?_
  | ((with_reducible refine' d_catS ?h ?_); (case h => first | exact small (by omega) | exact small (by simp; omega)))
  | ((with_reducible refine d_I ?hc ?_); (case hc => first | assumption | (show (0 : Int) < _; decide) | exact Or.inr ⟨by decide, by decide⟩ | exact Or.inr ⟨by omega, by omega⟩ | exact Or.inl ⟨by decide, by decide⟩ | exact (show CDivW _ _ from ⟨by decide, by decide +kernel⟩) | exact (show CPowW _ _ from ⟨by decide, by decide +kernel⟩) | (show (0 : Int) < _; omega)))
  | ((with_reducible refine' d_mulI ?h ?_); (case h => first | exact Or.inr ⟨by decide, by decide⟩ | exact Or.inr ⟨by omega, by omega⟩ | exact Or.inl ⟨by decide, by decide⟩ | exact Or.inl ⟨by omega, by omega⟩))
  | ((with_reducible refine' d_div ?h ?_); (case h => first | assumption | exact ⟨by decide, by decide⟩ | exact ⟨by omega, by omega⟩))
  | with_reducible refine d_neg ?_
  | ((with_reducible refine' d_lenS ?h ?_); (case h => first | exact small (by omega) | exact small (by simp; omega)))
  | ((with_reducible refine' d_lenL ?h ?_); (case h => walk_at "rs"))
  | ((with_reducible refine' d_lenT ?ht ?h ?_); (case h => walk_at "rs"); (case ht => first | exact Or.inl rfl | exact Or.inr rfl))
  | ((with_reducible refine' d_lenK ?h ?_); (case h => walk_at "rs"))
  | ((with_reducible refine' d_eqS ?_))
  | ((with_reducible refine' d_neS ?_))
  | ((with_reducible refine' d_eqI ?_))
  | ((with_reducible refine' d_neI ?_))
  | ((with_reducible refine' d_eqB ?_))
  | ((with_reducible refine' d_neB ?_))
  | with_reducible refine d_inS ?_
  | with_reducible refine d_ninS ?_
  | ((with_reducible refine' d_slS ?h ?_); (case h => first | exact small (by omega) | exact small (by simp; omega)))
  | ((with_reducible refine' d_slL ?h ?_); (case h => walk_at "rs"))
  | ((with_reducible refine' d_ixL' ?h1 ?h2 ?h3 ?_); (case h1 => walk_at "rs"); (case h2 => first | decide | omega); (case h3 => first | exact rfl | assumption))
  | ((with_reducible refine' d_ixT' ?ht ?h1 ?h2 ?h3 ?_); (case h1 => walk_at "rs"); (case ht => first | exact Or.inl rfl | exact Or.inr rfl); (case h2 => first | decide | omega); (case h3 => first | exact rfl | assumption))
  | ((with_reducible refine' d_isi ?h1 ?h2 ?h3 ?_); (case h1 => walk_at "rs"); (case h2 => first | exact rfl | assumption); (case h3 => first | exact kb_int_int | exact kb_int_bool | exact kb_int_str | exact kb_int_list | exact kb_int_tuple | exact kb_bool_int | exact kb_bool_bool | exact kb_bool_str | exact kb_bool_list | exact kb_bool_tuple | exact kb_str_int | exact kb_str_bool | exact kb_str_str | exact kb_str_list | exact kb_str_tuple | exact kb_NoneType_int | exact kb_NoneType_bool | exact kb_NoneType_str | exact kb_NoneType_list | exact kb_NoneType_tuple | exact kb_list_int | exact kb_list_bool | exact kb_list_str | exact kb_list_list | exact kb_list_tuple | exact kb_tuple_int | exact kb_tuple_bool | exact kb_tuple_str | exact kb_tuple_list | exact kb_tuple_tuple))
  | ((with_reducible refine' d_isStr ?h1 ?h2 ?_); (case h1 => walk_at "rs"); (case h2 => first | exact rfl | assumption))
  | ((with_reducible refine' d_isInt ?h1 ?h2 ?_); (case h1 => walk_at "rs"); (case h2 => first | exact rfl | assumption))
  | ((with_reducible refine' d_isBool ?h1 ?h2 ?_); (case h1 => walk_at "rs"); (case h2 => first | exact rfl | assumption))
  | ((with_reducible refine' d_isLst ?h1 ?h2 ?_); (case h1 => walk_at "rs"); (case h2 => first | exact rfl | assumption))
  | ((with_reducible refine' d_isTup ?h1 ?h2 ?_); (case h1 => walk_at "rs"); (case h2 => first | exact rfl | assumption))
  | ((with_reducible refine' d_isN ?h ?_); (case h => first | exact nr_non | exact nr_int | exact nr_str | exact nr_tk | exact nr_nd | exact nr_bl | exact nr_base (by assumption) | assumption))
  | ((with_reducible refine' d_notN ?h ?_); (case h => first | exact nr_non | exact nr_int | exact nr_str | exact nr_tk | exact nr_nd | exact nr_bl | exact nr_base (by assumption) | assumption))
  | with_reducible refine d_int ?_
  | with_reducible refine d_abs ?_
  | ((with_reducible refine' d_tupL ?h ?_); (case h => walk_at "rs"))
  | with_reducible refine d_tupT ?_
  | ((with_reducible refine' d_listL ?h ?_); (case h => walk_at "rs"))
  | ((with_reducible refine' d_listT ?ht ?h ?_); (case h => walk_at "rs"); (case ht => first | exact Or.inl rfl | exact Or.inr rfl))
  | ((with_reducible refine' d_append ?h1 ?h2 ?h3 ?_); (case h1 => first | exact rfl | exact app_last | exact app_at (by assumption) | assumption | exact app_last2); (case h2 => first | exact rfl | assumption); (case h3 => first | omega | (simp; omega)))
  | rw [clo_tk] | rw [clo_none] | rw [clo_str] | rw [clo_int] | rw [clo_node] | rw [clo_bl] | rw [clo_non] | rw [clo_nil] | rw [clo_ne (ne_at (by assumption))] | rw [clo_ne (ne_at' (by assumption))]
  | with_reducible refine w_T ?_
  | with_reducible refine w_F ?_
  | with_reducible refine w_nT ?_
  | with_reducible refine w_nF ?_
  | ((with_reducible refine And.intro ?h ?_); (case h => first | assumption | exact rfl | omega | exact ⟨_, rfl, rfl⟩ | exact isDraw_app (by assumption) | exact app_at (by assumption))))
local macro_rules | `(tactic| walk_at "dw") => `(tactic| ((try dsimp only); repeat (walk_at "dw1")))
open Rt

section
variable {P : Program} {w : World} {K : PySem.W.Frag} {T : Tbs} {mg : Str → Option Value} {base : Heap}
open Classical in
noncomputable def minT (r : List Nat) : List Nat := if h : ∃ t, IsMin r t then h.choose else []
theorem minT_is {r t : List Nat} (h : IsMin r t) : IsMin r (minT r) := by
  unfold minT
  rw [dif_pos ⟨t, h⟩]
  exact Exists.choose_spec (⟨t, h⟩ : ∃ t, IsMin r t)
theorem minT_eq {r t : List Nat} (h : IsMin r t) : t = minT r := h.eq (minT_is h)
def Has (kvs : List (Key × D)) (p : List Nat) : Prop := valD kvs (.inr (S p)) = some (.str (minT p)) ∧ IsMin p (minT p)
def Snd (kvs : List (Key × D)) : Prop := ∀ p d, valD kvs (.inr (S p)) = some d → Has kvs p
theorem Has.put {kvs : List (Key × D)} {p r : List Nat} (h : Has kvs p) : Has (putD kvs (.inr (S r)) (.str (minT r))) p := by
  refine ⟨?_, h.2⟩
  rw [valD_put]
  split
  · rename_i e
    rw [S_inj (Sum.inr.inj e)]
  · exact h.1
theorem Has.new {kvs : List (Key × D)} {r : List Nat} (h : IsMin r (minT r)) : Has (putD kvs (.inr (S r)) (.str (minT r))) r := by
  refine ⟨?_, h⟩
  rw [valD_put, if_pos rfl]
theorem Snd.put {kvs : List (Key × D)} {r : List Nat} (s : Snd kvs) (h : IsMin r (minT r)) : Snd (putD kvs (.inr (S r)) (.str (minT r))) := fun p d e => by
  rw [valD_put] at e
  split at e
  · rename_i z
    rw [S_inj (Sum.inr.inj z)]
    exact .new h
  · exact (s p d e).put
abbrev sp_best_text : SpD := sp2 fun a d τ Q _ => ∃ r n kvs, a = .str r ∧ d = .tk n ∧ τ[n]? = some (.dic kvs) ∧ (1 ≤ r.length ∧ r.length ≤ 24) ∧ (∀ k, 1 ≤ k → k < r.length → Has kvs (r.take k) ∧ Has kvs (r.drop k)) ∧ (IsMin r (minT r) → Q (.str (minT r)) τ)

abbrev s_best_text : Stmt := topS 15
abbrev N_best_text : List Str := ["piece", "texts", "found", "at"]
theorem sc_best_text : FnScope ["piece", "texts", "found", "at"] ["piece", "texts"] (defScope s_best_text) := ⟨rfl, rfl, rfl, by decide +kernel, rfl, by decide +kernel, by decide +kernel⟩
theorem can_best_text (B : Bi mg) {c_best_text P_best_text : Addr} (F : DefdC K mg "best_text" s_best_text ["piece", "texts"] c_best_text) (TB : LamX.TabB base mg c_best_text P_best_text) (hmT : (P_best_text, ("best_text.<locals>.<lambda>" : Str)) ∈ T) (hu : ∀ p ∈ T, p.1 = P_best_text → p.2 = ("best_text.<locals>.<lambda>" : Str)) (C_item_texts : Can P w K mg base L2.CX0 1 "item_texts" ["piece", "texts"] (mkSp K T sp_item_texts))  : Can P w K mg base L2.CX0 3 "best_text" ["piece", "texts"] (mkSp K T sp_best_text) := by
  refine canDC F sc_best_text (fun ds τ Q E h => ?_) (fun f A outer s H E ba ds τ Qd Ed hr h => ⟨_, (pss_cons (ps_set (i := 2) sc_best_text.nd rfl (by first | exact Or.inl rfl | exact Or.inr rfl) (pe_can C_item_texts hr (by decide) rfl (pa_cons (pv 0) (pa_cons (pv 1) pa_nil))))
  (pss_cons (ps_for PassesOwn.never rfl (pi_range2 rfl B.b_range (pa_cons pe_int (pa_cons (pe_callB call_lenU (by rfl) B.b_len boot_len (pa_cons (pv 0) pa_nil)) pa_nil))) (pg_name (i := 3) sc_best_text.nd rfl (by first | exact Or.inl rfl | exact Or.inr rfl))
    (pss_one (ps_expr (pe_bm PySem.F.plainAttrs_list PySem.F.slot_list_append PySem.F.type_list_append mt_append (pv 2) (pa_cons (pe_op op_addU (pe_ix (ix_U (hu1 hr)) (pv 1) (pe_slice sl_U (pv 0) po_none (po_some (pv 3))) (fun _ _ => rfl)) (pe_ix (ix_U (hu1 hr)) (pv 1) (pe_slice sl_U (pv 0) (po_some (pv 3)) po_none) (fun _ _ => rfl))) pa_nil)))))
  (pss_one (ps_ret (pe_minKey TB rfl hmT hu hr (by rfl) B.b_min (pv 2) (by decide +kernel) rfl rfl (NdefX.nscope_by (by decide +kernel)) (fun _ _ _ _ _ => rfl) (fun q f c1 A outer s H hr => (pe_tup (pa_cons (pe_callB call_lenS (by rfl) B.b_len boot_len (pa_cons (pv 0) pa_nil)) (pa_cons (pv 0) pa_nil))))
    (fun l H Q hl h => by exact r_tup (r_cons (r_cb (r_cons (r_var rfl (r_nil (r_lenS hl (r_cons (r_var rfl (r_nil ⟨small (Nat.le_of_ble_eq_true rfl), h⟩))))))))))))))), ?_⟩)
  · obtain ⟨_, _, rfl, _⟩ := h
    rfl
  · obtain ⟨v_piece, v_texts, rfl, h⟩ := h
    show WS K ba _ [some v_piece, some v_texts, none, none] τ _
    dsimp only [cxOf, Cx.nox, Cx.wish, Cx.tr, Cx.suite, Cx.blk]
    obtain ⟨r, n, kvs, rfl, rfl, hn, ⟨h1, h24⟩, hB, q⟩ := h
    walk_at "dw"
    refine ⟨r, n, kvs, minT, rfl, rfl, hn, ⟨h1, h24⟩, fun k k1 k2 => ⟨(hB k k1 k2).1.1, ?_⟩, fun ts hts hl hb => ?_⟩
    · have := (hB k k1 k2).1.2.le
      rw [List.length_take] at this
      omega
    walk_at "dw"
    refine w_for (fun i ρ' τ' => ∃ (ys : List (List Nat)) (o3 : Option D), ρ' = [some (.str r), some (.tk n), some (.tk τ.length), o3] ∧ τ' = τ ++ [Cl.lst ((ts ++ ys).map D.str)] ∧ (∀ t, t ∈ ys ↔ ∃ k, 1 ≤ k ∧ k < 1 + i ∧ t = minT (r.take k) ++ minT (r.drop k)) ∧ ys.length ≤ i ∧ ∀ t ∈ ys, t.length ≤ 24) (w_iRng2 ?_)
    walk_at "dw"
    have e2 : ((r.length : Int) - 1).toNat = r.length - 1 := by omega
    rw [e2]
    refine ⟨⟨[], none, rfl, by rw [List.append_nil], fun t => ⟨(fun h => by cases h), (fun ⟨k, h1, h2, _⟩ => by omega)⟩, Nat.le_refl _, (fun t h => by cases h)⟩, fun _ _ _ _ _ => trivial, fun i ρ' τ' hi hJ => ?_, fun ρ' τ' hJ => ?_⟩
    · obtain ⟨ys, o3, rfl, rfl, hT, hc, hb2⟩ := hJ
      obtain ⟨b1, b2⟩ := hB (1 + i) (by omega) (by omega)
      walk_at "dw"
      rw [cut_to (by omega), show ((1 : Int) + (i : Int)).toNat = 1 + i by omega]
      refine d_ixDk (rs_cell (app_at hn)) keyS b1.1 ?_
      walk_at "dw"
      rw [cut_from (by omega), show ((1 : Int) + (i : Int)).toNat = 1 + i by omega]
      refine d_ixDk (rs_cell (app_at hn)) keyS b2.1 ?_
      have l1 := b1.2.le
      have l2 := b2.2.le
      rw [List.length_take] at l1
      rw [List.length_drop] at l2
      walk_at "dw"
      refine ⟨ys ++ [minT (r.take (1 + i)) ++ minT (r.drop (1 + i))], _, rfl, by rw [set_last, ← List.append_assoc, List.map_append (l₁ := ts ++ ys)]; rfl, fun t => ?_, by rw [List.length_append, List.length_singleton]; omega, fun t ht => ?_⟩
      · rw [List.mem_append, List.mem_singleton, hT t]
        constructor
        · rintro (⟨k, a1, a2, a3⟩ | rfl)
          · exact ⟨k, a1, by omega, a3⟩
          · exact ⟨1 + i, by omega, by omega, rfl⟩
        · rintro ⟨k, a1, a2, a3⟩
          by_cases hk : k = 1 + i
          · exact .inr (by rw [a3, hk])
          · exact .inl ⟨k, a1, by omega, a3⟩
      · rcases List.mem_append.mp ht with h' | h'
        · exact hb2 t h'
        · rw [List.mem_singleton.mp h', List.length_append]
          omega
    · obtain ⟨ys, o3, rfl, rfl, hT, hc, hb2⟩ := hJ
      walk_at "dw"
      have mem : ∀ t, t ∈ ts ++ ys ↔ (r.length = 1 ∧ t = r) ∨ (2 ≤ r.length ∧ Cand minT r t) := fun t => by
        rw [List.mem_append, hT t]
        by_cases hr : r.length = 1
        · rw [if_pos hr] at hts
          rw [hts, List.mem_singleton]
          constructor
          · rintro (h | ⟨k, a1, a2, _⟩)
            · exact .inl ⟨hr, h⟩
            · omega
          · rintro (⟨_, h⟩ | ⟨h, _⟩)
            · exact .inl h
            · omega
        · rw [if_neg hr] at hts
          rw [hts t]
          constructor
          · rintro (⟨m, a1, a2, a3, rfl⟩ | ⟨k, a1, a2, rfl⟩)
            · exact .inr ⟨by omega, .item a1 (by omega) a3⟩
            · exact .inr ⟨by omega, .cut a1 (by omega)⟩
          · rintro (⟨h, _⟩ | ⟨_, h⟩)
            · exact absurd h hr
            · cases h with
              | item a1 a2 a3 => exact .inl ⟨_, a1, by omega, a3, rfl⟩
              | cut a1 a2 => exact .inr ⟨_, a1, by omega, rfl⟩
      refine ⟨ts ++ ys, rs_cell app_last, fun z => ?_, fun t ht => ?_, fun m hm hle => ?_⟩
      · have z2 : ¬ (∃ t, t ∈ ts ++ ys) := by
          rw [z]
          rintro ⟨t, ht⟩
          cases ht
        refine z2 ?_
        by_cases hr : r.length = 1
        · exact ⟨r, (mem r).mpr (.inl ⟨hr, rfl⟩)⟩
        · exact ⟨_, (mem _).mpr (.inr ⟨by omega, .cut (k := 1) (by omega) (by omega)⟩)⟩
      · rcases List.mem_append.mp ht with h' | h'
        · exact small (by have := hb t h'; omega)
        · exact small (by have := hb2 t h'; omega)
      · have im : IsMin r m := by
          rcases (mem m).mp hm with ⟨e1, e2⟩ | ⟨h2, hc⟩
          · obtain ⟨c, rfl⟩ := len_one e1
            rw [e2]
            exact min_one c
          · exact prog_min h2 (fun k k1 k2 => ⟨(hB k k1 k2).1.2, (hB k k1 k2).2.2⟩) hc fun t' ht' => hle t' ((mem t').mpr (.inr ⟨h2, ht'⟩))
        have e := minT_eq im
        rw [e]
        exact out_last rfl (q (minT_is im))
abbrev sp_fold_round (A : Addr) : SpD := sp1 fun a τ Q E => fine a ∧ match badRound a with
  | none => ∀ l, a = .str l → IsMin l (minT l) → Q (.str (minT l)) τ
  | some k => E A ["number"] [.int k] τ
theorem badRound_none {a : D} (h : badRound a = none) : ∃ l, a = .str l ∧ 1 ≤ l.length ∧ l.length ≤ 24 ∧ wrongAt l = none := by
  unfold badRound at h
  cases a with
  | str l =>
    dsimp only at h
    split at h
    · rename_i hl
      refine ⟨l, rfl, hl.1, hl.2, ?_⟩
      cases hw : wrongAt l with
      | none => rfl
      | some i => rw [hw] at h; cases h
    · cases h
  | _ => cases h
theorem dt_len {l : List Nat} {s k : Nat} (h : s + k ≤ l.length) : ((l.drop s).take k).length = k := by
  rw [List.length_take, List.length_drop]
  omega

abbrev s_fold_round : Stmt := topS 16
abbrev N_fold_round : List Str := ["row", "texts", "size", "start", "piece"]
theorem sc_fold_round : FnScope ["row", "texts", "size", "start", "piece"] ["row"] (defScope s_fold_round) := ⟨rfl, rfl, rfl, by decide +kernel, rfl, by decide +kernel, by decide +kernel⟩
theorem can_fold_round (B : Bi mg) (F : Defd K mg "fold_round" s_fold_round ["row"]) (C_check_round : Can P w K mg base (L2.CX P w) 3 "check_round" ["row"] (mkSp K T (sp_check_round A_BadRound))) (C_best_text : Can P w K mg base L2.CX0 3 "best_text" ["piece", "texts"] (mkSp K T sp_best_text))  : Can P w K mg base (L2.CX P w) 4 "fold_round" ["row"] (mkSp K T (sp_fold_round A_BadRound)) := by
  refine canDX F sc_fold_round (fun ds τ Q E h => ?_) (fun f cdv A outer s H E ba ds τ Qd Ed hr h hE => ⟨_, (pss_cons (ps_expr (pe_canX C_check_round hr (by decide) rfl (passes_call (takes_of rfl rfl rfl rfl) (fun _ _ _ _ h => h)) (pa_cons (pv 0) pa_nil)))
  (pss_cons (ps_set (i := 1) sc_fold_round.nd rfl (by first | exact Or.inl rfl | exact Or.inr rfl) pe_dnewK)
  (pss_cons (ps_for PassesOwn.leaving rfl (pi_range2 rfl B.b_range (pa_cons pe_int (pa_cons (pe_op op_addU (pe_callB call_lenU (by rfl) B.b_len boot_len (pa_cons (pv 0) pa_nil)) pe_int) pa_nil))) (pg_name (i := 2) sc_fold_round.nd rfl (by first | exact Or.inl rfl | exact Or.inr rfl))
    (pss_one (ps_for PassesOwn.leaving rfl (pi_range1 rfl B.b_range (pa_cons (pe_op op_addU (pe_op op_sub (pe_callB call_lenU (by rfl) B.b_len boot_len (pa_cons (pv 0) pa_nil)) (pv 2)) pe_int) pa_nil)) (pg_name (i := 3) sc_fold_round.nd rfl (by first | exact Or.inl rfl | exact Or.inr rfl))
    (pss_cons (ps_set (i := 4) sc_fold_round.nd rfl (by first | exact Or.inl rfl | exact Or.inr rfl) (pe_slice sl_U (pv 0) (po_some (pv 3)) (po_some (pe_op op_addU (pv 3) (pv 2)))))
  (pss_one (ps_if (pt_cmpR (op_ninU (hu64 hr)) (pv 4) (pv 1) (by rfl)) (pss_one (ps_dput (hu1 hr) (pv 1) (pv 4) (pe_can C_best_text hr (by decide) rfl (pa_cons (pv 4) (pa_cons (pv 1) pa_nil))) rfl)) pss_nil))))))
  (pss_fz (i := 1) (pss_one (ps_ret (pe_ix (ix_U (hu1 hr)) (pv 1) (pv 0) (fun _ _ => rfl)))))))), ?_⟩)
  · obtain ⟨_, rfl, _⟩ := h
    rfl
  · obtain ⟨v_row, rfl, h⟩ := h
    show WS K ba _ [some v_row, none, none, none, none] τ _
    dsimp only [cxOf, Cx.nox, Cx.wish, Cx.tr, Cx.suite, Cx.blk]
    obtain ⟨hf, h⟩ := h
    walk_at "dw"
    cases hb : badRound v_row with
    | some k =>
      rw [hb] at h
      exact out_raise h
    | none =>
    rw [hb] at h
    obtain ⟨l, rfl, l1, l24, -⟩ := badRound_none hb
    have q := h l rfl
    clear h hf hb
    walk_at "dw"
    refine w_for (fun i ρ' τ' => ∃ kvs o2 o3 o4, ρ' = [some (.str l), some (.tk τ.length), o2, o3, o4] ∧ τ' = τ ++ [Cl.dic kvs] ∧ kvs.length ≤ 24 * i ∧ Snd kvs ∧ ∀ s k, 1 ≤ k → k < 1 + i → s + k ≤ l.length → Has kvs ((l.drop s).take k)) (w_iRng2 ?_)
    walk_at "dw"
    have e2 : ((l.length : Int) + 1 - 1).toNat = l.length := by omega
    rw [e2]
    refine ⟨⟨[], none, none, none, rfl, rfl, Nat.le_refl _, (fun p d e => by cases e), (fun s k h1 h2 => by omega)⟩, fun _ _ _ _ _ => trivial, fun i ρ' τ' hi hJ => ?_, fun ρ' τ' hJ => ?_⟩
    · obtain ⟨kvs, o2, o3, o4, rfl, rfl, hk, hS, hH⟩ := hJ
      walk_at "dw"
      refine w_for (fun j ρ' τ' => ∃ kvs o3 o4, ρ' = [some (.str l), some (.tk τ.length), some (.int (1 + (i : Int))), o3, o4] ∧ τ' = τ ++ [Cl.dic kvs] ∧ kvs.length ≤ 24 * i + j ∧ Snd kvs ∧ (∀ s k, 1 ≤ k → k < 1 + i → s + k ≤ l.length → Has kvs ((l.drop s).take k)) ∧ ∀ s, s < j → Has kvs ((l.drop s).take (1 + i))) (w_iRng1 ?_)
      walk_at "dw"
      have e3 : ((l.length : Int) - (1 + (i : Int)) + 1).toNat = l.length - i := by omega
      rw [e3]
      refine ⟨⟨kvs, o3, o4, rfl, rfl, by omega, hS, hH, (fun s hs => absurd hs (Nat.not_lt_zero _))⟩, fun _ _ _ _ _ => trivial, fun j ρ' τ' hj hJ => ?_, fun ρ' τ' hJ => ?_⟩
      · obtain ⟨kvs, o3, o4, rfl, rfl, hk, hS, hH, hN⟩ := hJ
        walk_at "dw"
        have ec : cutL l (some (j : Int)) (some ((j : Int) + (1 + (i : Int)))) = (l.drop j).take (1 + i) := by
          rw [cut_mid (by omega) (by omega)]
          congr 1
          omega
        rw [ec]
        walk_at "dw"
        refine d_ninDk (rs_cell app_last) keyS ?_
        cases hv : valD kvs (.inr (S ((l.drop j).take (1 + i)))) with
        | some d =>
          walk_at "dw"
          refine w_F' rfl ?_
          walk_at "dw"
          refine ⟨kvs, _, _, rfl, rfl, by omega, hS, hH, fun s hs => ?_⟩
          by_cases e : s = j
          · rw [e]; exact hS _ _ hv
          · exact hN s (by omega)
        | none =>
          obtain ⟨p, hp⟩ : ∃ p, p = (l.drop j).take (1 + i) := ⟨_, rfl⟩
          have lp : p.length = 1 + i := by rw [hp]; exact dt_len (by omega)
          rw [← hp] at hv ⊢
          walk_at "dw"
          refine w_T' rfl ?_
          refine w_dputK ?_
          walk_at "dw"
          refine ⟨p, τ.length, kvs, rfl, rfl, app_last, ⟨by omega, by omega⟩, fun k k1 k2 => ⟨?_, ?_⟩, fun im => ?_⟩
          · rw [hp, List.take_take, Nat.min_eq_left (by omega)]
            exact hH j k k1 (by omega) (by omega)
          · rw [hp, List.drop_take, List.drop_drop]
            exact hH (j + k) (1 + i - k) (by omega) (by omega) (by omega)
          · walk_at "dw"
            refine ⟨τ.length, kvs, _, rfl, app_last, keyS, rfl, by omega, ?_⟩
            refine ⟨putD kvs (.inr (S p)) (.str (minT p)), _, _, rfl, by rw [set_last], ?_, hS.put im, fun s k h1 h2 h3 => (hH s k h1 h2 h3).put, fun s hs => ?_⟩
            · have := putD_len (kvs := kvs) (k := (.inr (S p) : Key)) (v := D.str (minT p))
              omega
            · by_cases e : s = j
              · rw [e, ← hp]; exact .new im
              · exact (hN s (by omega)).put
      · obtain ⟨kvs, o3, o4, rfl, rfl, hk, hS, hH, hN⟩ := hJ
        refine ⟨kvs, _, _, _, rfl, rfl, by omega, hS, fun s k h1 h2 h3 => ?_⟩
        by_cases e : k = 1 + i
        · rw [e]; exact hN s (by omega)
        · exact hH s k h1 (by omega) h3
    · obtain ⟨kvs, o2, o3, o4, rfl, rfl, hk, hS, hH⟩ := hJ
      have hl := hH 0 l.length l1 (by omega) (by omega)
      rw [List.drop_zero, List.take_length] at hl
      walk_at "dw"
      refine d_ixDk rs_nd keyS hl.1 ?_
      walk_at "dw"
      exact out_lastS rfl (q hl.2)
end
end Fk

set_option Elab.async false
set_option linter.all false
set_option maxRecDepth 100000
set_option maxHeartbeats 4000000
namespace Fk
open PySem PySem.Spec PyProof.Rows L2 Fg Pu
local macro_rules | `(tactic| walk_at "rs") => `(tactic| first | exact rs_str | exact rs_int | exact rs_bl | exact rs_non | exact rs_nd | exact rs_cell rfl | exact rs_cell app_last | exact rs_cell (app_at (by assumption)) | exact rs_cell (by assumption) | exact rs_cell app_last2 | exact base_rs (by assumption) | exact pln_rs (by assumption) | assumption)
local macro_rules | `(tactic| walk_at "dw1") => `(tactic| first
  | with_reducible refine w_seq ?_
  | with_reducible refine w_asg ?_
  | with_reducible refine w_gname ?_
  | ((with_reducible refine' w_retC ?h1 ?h2 ?_); (case h1 => exact rfl); (case h2 => first | exact rfl | exact app_last | exact app_at (by assumption) | assumption | exact app_last2))
  | with_reducible refine w_ret ?_
  | with_reducible refine w_retK ?_
  | with_reducible refine w_minKey ?_
  | with_reducible refine d_leIS ?_
  | with_reducible refine d_eqI0 ?_
  | ((with_reducible refine' w_gtup ?h ?_); (case h => exact rfl))
  | with_reducible refine w_gcons ?_
  | with_reducible refine w_gnil ?_
  | ((with_reducible refine' gv_tup ?h ?_); (case h => exact rfl))
  | with_reducible refine gv_cons ?_
  | with_reducible refine gv_nil ?_
  | ((with_reducible refine' gv_name ?h ?_); (case h => decide))
  | with_reducible refine w_retN ?_
  | with_reducible refine w_next ?_
  | with_reducible refine w_break ?_
  | with_reducible refine w_cont ?_
  | with_reducible refine w_drop ?_
  | with_reducible refine w_ifS ?_
  | with_reducible refine w_if ?_
  | with_reducible refine w_par ?_
  | with_reducible refine w_pair ?_
  | ((with_reducible refine' w_rng1 ?h ?_); (case h => omega))
  | ((with_reducible refine' w_rng2 ?h ?_); (case h => omega))
  | with_reducible refine w_test ?_
  | with_reducible refine w_tB ?_
  | with_reducible refine w_not ?_
  | with_reducible refine w_and ?_
  | with_reducible refine w_or ?_
  | with_reducible refine w_andV ?_
  | with_reducible refine w_orV ?_
  | with_reducible refine w_notV ?_
  | with_reducible refine w_nil ?_
  | with_reducible refine w_cons ?_
  | with_reducible refine w_call0 ?_
  | ((with_reducible refine' w_callX ?hE ?_); (case hE => assumption))
  | ((with_reducible refine' w_callS ?hW ?_); (case hW => assumption))
  | ((with_reducible refine' w_raise ?hE ?_); (case hE => assumption))
  | ((with_reducible refine' w_one ?h1 ?_); (case h1 => first | exact rfl | assumption))
  | with_reducible refine sp1_at ?_
  | with_reducible refine sp2_at ?_
  | with_reducible refine sp3_at ?_
  | with_reducible refine sp4_at ?_
  | with_reducible refine sp5_at ?_
  | with_reducible refine sp6_at ?_
  | with_reducible refine w_draw ?_
  | with_reducible refine w_cb ?_
  | with_reducible refine w_then ?_
  | with_reducible refine w_sl ?_
  | with_reducible refine w_nopart ?_
  | with_reducible refine w_part ?_
  | with_reducible refine w_op ?_
  | with_reducible refine w_un ?_
  | with_reducible refine w_chain ?_
  | ((with_reducible refine' w_var ?hv ?_); (case hv => exact rfl))
  | with_reducible refine w_cI ?_
  | with_reducible refine w_cB ?_
  | with_reducible refine w_cN ?_
  | with_reducible refine w_cS ?_
  | with_reducible refine w_cs ?_
  | with_reducible refine w_cR ?_
  | with_reducible refine w_yes ?_
  | ((with_reducible refine' w_fz1 ?h1 ?h2 ?_); (case h1 => exact rfl); (case h2 => first | exact rfl | exact app_last | exact app_at (by assumption) | assumption | exact app_last2))
  | with_reducible refine w_fz0 ?_
  | with_reducible refine w_dnewK ?_
  | with_reducible refine w_dnewT ?_
  | with_reducible refine w_bl ?_
  | with_reducible refine w_in ?_
  | with_reducible refine w_tru1 ?_
  | with_reducible refine w_tup ?_
  | with_reducible refine w_lst ?_
  | with_reducible refine w_lstC' ?_
  | ((with_reducible refine' w_mk ?h1 ?h2 ?_); (case h1 => first | exact rfl | assumption); (case h2 => exact small (Nat.le_of_ble_eq_true rfl)))
  | with_reducible refine w_strE ?_
  | ((with_reducible refine' w_lstE ?h1 ?_); (case h1 => walk_at "rs"))
  | with_reducible refine t_bl ?_
  | with_reducible refine t_non ?_
  | with_reducible refine t_int ?_
  | ((with_reducible refine' t_str ?h ?_); (case h => first | assumption | omega))
  | ((with_reducible refine' t_lst ?h ?_); (case h => walk_at "rs"))
  | ((with_reducible refine' t_tup ?h ?_); (case h => walk_at "rs"))
  | with_reducible refine w_bmS ?_
  | with_reducible refine w_bmL ?_
  | with_reducible refine d_addI ?_
  | with_reducible refine d_I0 ?_
  | with_reducible refine d_I0b ?_
  | with_reducible refine d_cmpI ?_
  | ((with_reducible refine' d_catS ?h ?_); (case h => first | exact small (by omega) | exact small (by simp; omega)))
  | ((with_reducible refine d_I ?hc ?_); (case hc => first | assumption | (show (0 : Int) < _; decide) | exact Or.inr ⟨by decide, by decide⟩ | exact Or.inr ⟨by omega, by omega⟩ | exact Or.inl ⟨by decide, by decide⟩ | exact (show CDivW _ _ from ⟨by decide, by decide +kernel⟩) | exact (show CPowW _ _ from ⟨by decide, by decide +kernel⟩) | (show (0 : Int) < _; omega)))
  | ((with_reducible refine' d_mulI ?h ?_); (case h => first | exact Or.inr ⟨by decide, by decide⟩ | exact Or.inr ⟨by omega, by omega⟩ | exact Or.inl ⟨by decide, by decide⟩ | exact Or.inl ⟨by omega, by omega⟩))
  | ((with_reducible refine' d_div ?h ?_); (case h => first | assumption | exact ⟨by decide, by decide⟩ | exact ⟨by omega, by omega⟩))
  | with_reducible refine d_neg ?_
  | ((with_reducible refine' d_lenS ?h ?_); (case h => first | exact small (by omega) | exact small (by simp; omega)))
  | ((with_reducible refine' d_lenL ?h ?_); (case h => walk_at "rs"))
  | ((with_reducible refine' d_lenT ?ht ?h ?_); (case h => walk_at "rs"); (case ht => first | exact Or.inl rfl | exact Or.inr rfl))
  | ((with_reducible refine' d_lenK ?h ?_); (case h => walk_at "rs"))
  | ((with_reducible refine' d_eqS ?_))
  | ((with_reducible refine' d_neS ?_))
  | ((with_reducible refine' d_eqI ?_))
  | ((with_reducible refine' d_neI ?_))
  | ((with_reducible refine' d_eqB ?_))
  | ((with_reducible refine' d_neB ?_))
  | with_reducible refine d_inS ?_
  | with_reducible refine d_ninS ?_
  | ((with_reducible refine' d_slS ?h ?_); (case h => first | exact small (by omega) | exact small (by simp; omega)))
  | ((with_reducible refine' d_slL ?h ?_); (case h => walk_at "rs"))
  | ((with_reducible refine' d_ixL' ?h1 ?h2 ?h3 ?_); (case h1 => walk_at "rs"); (case h2 => first | decide | omega); (case h3 => first | exact rfl | assumption))
  | ((with_reducible refine' d_ixT' ?ht ?h1 ?h2 ?h3 ?_); (case h1 => walk_at "rs"); (case ht => first | exact Or.inl rfl | exact Or.inr rfl); (case h2 => first | decide | omega); (case h3 => first | exact rfl | assumption))
  | ((with_reducible refine' d_isi ?h1 ?h2 ?h3 ?_); (case h1 => walk_at "rs"); (case h2 => first | exact rfl | assumption); (case h3 => first | exact kb_int_int | exact kb_int_bool | exact kb_int_str | exact kb_int_list | exact kb_int_tuple | exact kb_bool_int | exact kb_bool_bool | exact kb_bool_str | exact kb_bool_list | exact kb_bool_tuple | exact kb_str_int | exact kb_str_bool | exact kb_str_str | exact kb_str_list | exact kb_str_tuple | exact kb_NoneType_int | exact kb_NoneType_bool | exact kb_NoneType_str | exact kb_NoneType_list | exact kb_NoneType_tuple | exact kb_list_int | exact kb_list_bool | exact kb_list_str | exact kb_list_list | exact kb_list_tuple | exact kb_tuple_int | exact kb_tuple_bool | exact kb_tuple_str | exact kb_tuple_list | exact kb_tuple_tuple))
  | ((with_reducible refine' d_isStr ?h1 ?h2 ?_); (case h1 => walk_at "rs"); (case h2 => first | exact rfl | assumption))
  | ((with_reducible refine' d_isInt ?h1 ?h2 ?_); (case h1 => walk_at "rs"); (case h2 => first | exact rfl | assumption))
  | ((with_reducible refine' d_isBool ?h1 ?h2 ?_); (case h1 => walk_at "rs"); (case h2 => first | exact rfl | assumption))
  | ((with_reducible refine' d_isLst ?h1 ?h2 ?_); (case h1 => walk_at "rs"); (case h2 => first | exact rfl | assumption))
  | ((with_reducible refine' d_isTup ?h1 ?h2 ?_); (case h1 => walk_at "rs"); (case h2 => first | exact rfl | assumption))
  | ((with_reducible refine' d_isN ?h ?_); (case h => first | exact nr_non | exact nr_int | exact nr_str | exact nr_tk | exact nr_nd | exact nr_bl | exact nr_base (by assumption) | assumption))
  | ((with_reducible refine' d_notN ?h ?_); (case h => first | exact nr_non | exact nr_int | exact nr_str | exact nr_tk | exact nr_nd | exact nr_bl | exact nr_base (by assumption) | assumption))
  | with_reducible refine d_int ?_
  | with_reducible refine d_abs ?_
  | ((with_reducible refine' d_tupL ?h ?_); (case h => walk_at "rs"))
  | with_reducible refine d_tupT ?_
  | ((with_reducible refine' d_listL ?h ?_); (case h => walk_at "rs"))
  | ((with_reducible refine' d_listT ?ht ?h ?_); (case h => walk_at "rs"); (case ht => first | exact Or.inl rfl | exact Or.inr rfl))
  | ((with_reducible refine' d_append ?h1 ?h2 ?h3 ?_); (case h1 => first | exact rfl | exact app_last | exact app_at (by assumption) | assumption | exact app_last2); (case h2 => first | exact rfl | assumption); (case h3 => first | omega | (simp; omega)))
  | rw [clo_tk] | rw [clo_none] | rw [clo_str] | rw [clo_int] | rw [clo_node] | rw [clo_bl] | rw [clo_non] | rw [clo_nil] | rw [clo_ne (ne_at (by assumption))] | rw [clo_ne (ne_at' (by assumption))]
  | with_reducible refine w_T ?_
  | with_reducible refine w_F ?_
  | with_reducible refine w_nT ?_
  | with_reducible refine w_nF ?_
  | ((with_reducible refine And.intro ?h ?_); (case h => first | assumption | exact rfl | omega | exact ⟨_, rfl, rfl⟩ | exact isDraw_app (by assumption) | exact app_at (by assumption))))
local macro_rules | `(tactic| walk_at "dw") => `(tactic| ((try dsimp only); repeat (walk_at "dw1")))
open Rt

section
variable {P : Program} {w : World} {K : PySem.W.Frag} {T : Tbs} {mg : Str → Option Value} {base : Heap}
def AllSg (l : List Nat) : Prop := ∀ c ∈ l, isSg c = true
theorem AllSg.app {a b : List Nat} (h : AllSg a) (k : AllSg b) : AllSg (a ++ b) := fun c hc => (List.mem_append.mp hc).elim (h c) (k c)
theorem AllSg.take {a : List Nat} (n : Nat) (h : AllSg a) : AllSg (a.take n) := fun c hc => h c (List.mem_of_mem_take hc)
theorem AllSg.drop {a : List Nat} (n : Nat) (h : AllSg a) : AllSg (a.drop n) := fun c hc => h c (List.mem_of_mem_drop hc)
theorem AllSg.one {c : Nat} (h : isSg c = true) : AllSg [c] := fun d hd => by rw [List.mem_singleton.mp hd]; exact h
theorem AllSg.rep {a : List Nat} (h : AllSg a) (n : Nat) : AllSg (List.replicate n a).flatten := fun c hc => by
  obtain ⟨l, h1, h2⟩ := List.mem_flatten.mp hc
  rw [(List.mem_replicate.mp h1).2] at h2
  exact h c h2
theorem rep_len' (n : Nat) (u : List Nat) : (List.replicate n u).flatten.length = n * u.length := rep_length n u
abbrev sp_isint : SpD := sp1 fun a τ Q _ => ∃ j, a = .int j ∧ Q (.bl true) τ
abbrev sp_sign : SpD := sp1 fun a τ Q _ => IsDraw τ a ∧ ∀ c, isSg c = true → Q (.str [c]) τ
abbrev sp_round : SpD := sp2 fun a m τ Q _ => ∃ j : Int, m = .int j ∧ (1 ≤ j ∧ j ≤ 24) ∧ IsDraw τ a ∧ ∀ l, AllSg l → 1 ≤ l.length → l.length ≤ 24 → Q (.str l) τ
abbrev sp_bent : SpD := sp2 fun a b τ Q _ => ∃ l, b = .str l ∧ AllSg l ∧ (1 ≤ l.length ∧ l.length ≤ 24) ∧ IsDraw τ a ∧ ∀ l2, AllSg l2 → 1 ≤ l2.length → l2.length ≤ 25 → Q (.str l2) τ
abbrev sp_row : SpD := sp1 fun a τ Q _ => IsDraw τ a ∧ ∀ l, AllSg l → 1 ≤ l.length → l.length ≤ 24 → Q (.str l) τ
theorem sg7 : ∀ i : Fin 7, isSg (([46, 46, 46, 119, 119, 114, 103] : List Nat).getD i.val 0) = true := by decide +kernel
theorem sg2 : ∀ i : Fin 2, isSg (([103, 119] : List Nat).getD i.val 0) = true := by decide +kernel

abbrev s_l_is_int : Stmt := topS 36
abbrev N_l_is_int : List Str := ["_law_thing"]
theorem sc_l_is_int : FnScope ["_law_thing"] ["_law_thing"] (defScope s_l_is_int) := ⟨rfl, rfl, rfl, by decide +kernel, rfl, by decide +kernel, by decide +kernel⟩
theorem can_l_is_int (B : Bi mg) (F : Defd K mg "_law_is_int" s_l_is_int ["_law_thing"])   : Can P w K mg base L2.CX0 1 "_law_is_int" ["_law_thing"] (mkSp K T sp_isint) := by
  refine canD0 F sc_l_is_int (fun ds τ Q E h => ?_) (fun f cdv A outer s H E ba ds τ Qd Ed hr h => ⟨_, (pss_one (ps_ret (pe_and (pe_callB call_isi (by rfl) B.b_isinstance boot_isinstance (pa_cons (pv 0) (pa_cons (pe_bltn (v := .ty "int") (by rfl) B.b_int boot_int rfl) pa_nil))) (pe_one (pe_not (pe_callB call_isi (by rfl) B.b_isinstance boot_isinstance (pa_cons (pv 0) (pa_cons (pe_bltn (v := .ty "bool") (by rfl) B.b_bool boot_bool rfl) pa_nil)))))))), ?_⟩)
  · obtain ⟨_, rfl, _⟩ := h
    rfl
  · obtain ⟨v_thing, rfl, h⟩ := h
    show WS K ba _ [some v_thing] τ _
    dsimp only [cxOf, Cx.nox, Cx.wish, Cx.tr, Cx.suite, Cx.blk]
    obtain ⟨j, rfl, q⟩ := h
    walk_at "dw"
    exact out_same rfl q
abbrev s_l_sign : Stmt := topS 37
abbrev N_l_sign : List Str := ["_law_draw_here"]
theorem sc_l_sign : FnScope ["_law_draw_here"] ["_law_draw_here"] (defScope s_l_sign) := ⟨rfl, rfl, rfl, by decide +kernel, rfl, by decide +kernel, by decide +kernel⟩
theorem can_l_sign (B : Bi mg) (F : Defd K mg "_law_sign" s_l_sign ["_law_draw_here"]) (C_l_pick : Can P w K mg base L2.CX0 2 "_law_pick" ["_law_draw_here", "_law_many"] (mkSp K T spPickD))  : Can P w K mg base L2.CX0 3 "_law_sign" ["_law_draw_here"] (mkSp K T sp_sign) := by
  refine canD0 F sc_l_sign (fun ds τ Q E h => ?_) (fun f cdv A outer s H E ba ds τ Qd Ed hr h => ⟨_, (pss_one (ps_ret (pe_ix (ix_U (hu1 hr)) (pe_strL [46, 46, 46, 119, 119, 114, 103] (by decide +kernel)) (pe_can C_l_pick hr (by decide) rfl (pa_cons (pv 0) (pa_cons pe_int pa_nil))) (fun _ _ => rfl)))), ?_⟩)
  · obtain ⟨_, rfl, _⟩ := h
    rfl
  · obtain ⟨v_draw_here, rfl, h⟩ := h
    show WS K ba _ [some v_draw_here] τ _
    dsimp only [cxOf, Cx.nox, Cx.wish, Cx.tr, Cx.suite, Cx.blk]
    obtain ⟨hd, q⟩ := h
    walk_at "dw"
    refine sp_pick hd (by omega) fun k k0 k1 => ?_
    walk_at "dw"
    refine d_ixS' (small (Nat.le_of_ble_eq_true rfl)) k0 (get_gd (by show _ < 7; omega)) ?_
    walk_at "dw"
    exact out_same rfl (q _ (sg7 ⟨k.toNat, by omega⟩))
abbrev s_l_round : Stmt := topS 38
abbrev N_l_round : List Str := ["_law_draw_here", "_law_most", "_law_turn"]
theorem sc_l_round : FnScope ["_law_draw_here", "_law_most", "_law_turn"] ["_law_draw_here", "_law_most"] (defScope s_l_round) := ⟨rfl, rfl, rfl, by decide +kernel, rfl, by decide +kernel, by decide +kernel⟩
theorem can_l_round (B : Bi mg) (F : Defd K mg "_law_round" s_l_round ["_law_draw_here", "_law_most"]) (C_l_pick : Can P w K mg base L2.CX0 2 "_law_pick" ["_law_draw_here", "_law_many"] (mkSp K T spPickD)) (C_l_sign : Can P w K mg base L2.CX0 3 "_law_sign" ["_law_draw_here"] (mkSp K T sp_sign))  : Can P w K mg base L2.CX0 4 "_law_round" ["_law_draw_here", "_law_most"] (mkSp K T sp_round) := by
  refine canD0 F sc_l_round (fun ds τ Q E h => ?_) (fun f cdv A outer s H E ba ds τ Qd Ed hr h => ⟨_, (pss_one (ps_ret (pe_bm PySem.F.plainAttrs_str PySem.F.slot_str_join PySem.F.type_str_join mt_joinS (pe_strL [] (by decide +kernel)) (pa_cons (pe_lc (own := [("_law_turn", 2)]) (tt := tYes) rfl sc_l_round.nd (pi_range1 rfl B.b_range (pa_cons (pe_op op_addU pe_int (pe_can C_l_pick hr (by decide) rfl (pa_cons (pv 0) (pa_cons (pv 1) pa_nil)))) pa_nil)) (blkOk_by (N := N_l_round) (sc := defScope s_l_round) (by decide +kernel)) (fun _ _ _ _ _ => pg_name (i := 2) sc_l_round.nd rfl (Or.inl rfl)) (fun _ _ _ _ _ => pts_nil) (fun _ _ _ _ _ => (pe_can C_l_sign hr (by decide) rfl (pa_cons (pv 0) pa_nil)))) pa_nil)))), ?_⟩)
  · obtain ⟨_, _, rfl, _⟩ := h
    rfl
  · obtain ⟨v_draw_here, v_most, rfl, h⟩ := h
    show WS K ba _ [some v_draw_here, some v_most, none] τ _
    dsimp only [cxOf, Cx.nox, Cx.wish, Cx.tr, Cx.suite, Cx.blk]
    obtain ⟨j, rfl, ⟨j1, j24⟩, hd, q⟩ := h
    walk_at "dw"
    refine w_lc (fun i acc => ∃ l : List Nat, acc = (l.map fun c => [c]).map D.str ∧ AllSg l ∧ l.length = i) (w_iRng1 ?_)
    walk_at "dw"
    refine sp_pick hd (by omega) fun k k0 k1 => ?_
    walk_at "dw"
    refine ⟨fun _ => trivial, ⟨[], rfl, (fun c h => by cases h), rfl⟩, fun i acc hi _ ⟨l, ha, hs, hl⟩ => ?_, fun acc _ ⟨l, ha, hs, hl⟩ => ?_⟩
    · walk_at "dw"
      refine fun c hc => ?_
      walk_at "dw"
      exact ⟨l ++ [c], by rw [ha, List.map_append, List.map_append]; rfl, hs.app (.one hc), by rw [List.length_append, hl]; rfl⟩
    · subst ha
      walk_at "dw"
      refine d_join rs_nd ?_ ?_
      · rw [List.map_map, show ((fun x : List Nat => x.length) ∘ fun c : Nat => [c]) = fun _ => 1 from rfl, List.map_const', List.sum_replicate_nat]
        simp
        omega
      · rw [joinL_one]
        exact out_same rfl (q l hs (by omega) (by omega))
abbrev s_l_bent : Stmt := topS 39
abbrev N_l_bent : List Str := ["_law_draw_here", "_law_row_here", "_law_place", "_law_kind"]
theorem sc_l_bent : FnScope ["_law_draw_here", "_law_row_here", "_law_place", "_law_kind"] ["_law_draw_here", "_law_row_here"] (defScope s_l_bent) := ⟨rfl, rfl, rfl, by decide +kernel, rfl, by decide +kernel, by decide +kernel⟩
theorem can_l_bent (B : Bi mg) (F : Defd K mg "_law_bent" s_l_bent ["_law_draw_here", "_law_row_here"]) (C_l_pick : Can P w K mg base L2.CX0 2 "_law_pick" ["_law_draw_here", "_law_many"] (mkSp K T spPickD)) (C_l_sign : Can P w K mg base L2.CX0 3 "_law_sign" ["_law_draw_here"] (mkSp K T sp_sign))  : Can P w K mg base L2.CX0 4 "_law_bent" ["_law_draw_here", "_law_row_here"] (mkSp K T sp_bent) := by
  refine canD0 F sc_l_bent (fun ds τ Q E h => ?_) (fun f cdv A outer s H E ba ds τ Qd Ed hr h => ⟨_, (pss_cons (ps_set (i := 2) sc_l_bent.nd rfl (by first | exact Or.inl rfl | exact Or.inr rfl) (pe_can C_l_pick hr (by decide) rfl (pa_cons (pv 0) (pa_cons (pe_callB call_lenU (by rfl) B.b_len boot_len (pa_cons (pv 1) pa_nil)) pa_nil))))
  (pss_cons (ps_set (i := 3) sc_l_bent.nd rfl (by first | exact Or.inl rfl | exact Or.inr rfl) (pe_can C_l_pick hr (by decide) rfl (pa_cons (pv 0) (pa_cons pe_int pa_nil))))
  (Evl.pss_cut (ps_if (PW.pt (pw_and (pt_cmpR (op_eqP (hu64 hr)) (pv 3) pe_int (nomark _)) (pw_and1 (pt_cmpR (op_gtU (hu64 hr)) (pe_callB call_lenU (by rfl) B.b_len boot_len (pa_cons (pv 1) pa_nil)) pe_int (nomark _))))) (pss_one (ps_ret (pe_op op_addU (pe_slice sl_U (pv 1) po_none (po_some (pv 2))) (pe_slice sl_U (pv 1) (po_some (pe_op op_addU (pv 2) pe_int)) po_none)))) pss_nil)
  (pss_cons (ps_if (pt_cmpR (op_eqP (hu64 hr)) (pv 3) pe_int (nomark _)) (pss_one (ps_ret (pe_op op_addU (pe_op op_addU (pe_slice sl_U (pv 1) po_none (po_some (pv 2))) (pe_can C_l_sign hr (by decide) rfl (pa_cons (pv 0) pa_nil))) (pe_slice sl_U (pv 1) (po_some (pv 2)) po_none)))) pss_nil)
  (pss_one (ps_ret (pe_op op_addU (pe_op op_addU (pe_slice sl_U (pv 1) po_none (po_some (pv 2))) (pe_can C_l_sign hr (by decide) rfl (pa_cons (pv 0) pa_nil))) (pe_slice sl_U (pv 1) (po_some (pe_op op_addU (pv 2) pe_int)) po_none)))))))), ?_⟩)
  · obtain ⟨_, _, rfl, _⟩ := h
    rfl
  · obtain ⟨v_draw_here, v_row_here, rfl, h⟩ := h
    show WS K ba _ [some v_draw_here, some v_row_here, none, none] τ _
    dsimp only [cxOf, Cx.nox, Cx.wish, Cx.tr, Cx.suite, Cx.blk]
    obtain ⟨l, rfl, hs, ⟨l1, l24⟩, hd, q⟩ := h
    walk_at "dw"
    refine sp_pick hd (by omega) fun p p0 p1 => ?_
    walk_at "dw"
    refine sp_pick hd (by omega) fun k k0 k1 => ?_
    have pl : p.toNat < l.length := by omega
    have ct : cutL l none (some p) = l.take p.toNat := cut_to p0
    have cf : cutL l (some p) none = l.drop p.toNat := cut_from p0
    have cf1 : cutL l (some (p + 1)) none = l.drop (p.toNat + 1) := by
      rw [cut_from (by omega)]
      congr 1
      omega
    walk_at "dw"
    refine w_cut (fun ρ' τ' => ρ' = [some v_draw_here, some (D.str l), some (D.int p), some (D.int k)] ∧ τ' = τ) ?_ ?_
    · walk_at "dw"
      refine w_ite (fun h0 => ?_) (fun h0 => ?_)
      · walk_at "dw"
        refine w_ite (fun h2 => ?_) (fun h2 => ?_)
        · walk_at "dw"
          rw [ct, cf1]
          walk_at "dw"
          exact out_same rfl (q _ ((hs.take _).app (hs.drop _)) (by simp; omega) (by simp; omega))
        · walk_at "dw"
          exact rfl
      · walk_at "dw"
        exact rfl
    · rintro ρ' τ' ⟨rfl, rfl⟩
      walk_at "dw"
      refine w_ite (fun h0 => ?_) (fun h0 => ?_)
      · walk_at "dw"
        refine fun c hc => ?_
        rw [ct]
        walk_at "dw"
        rw [cf]
        walk_at "dw"
        exact out_same rfl (q _ (((hs.take _).app (.one hc)).app (hs.drop _)) (by simp; omega) (by simp; omega))
      · walk_at "dw"
        refine fun c hc => ?_
        rw [ct]
        walk_at "dw"
        rw [cf1]
        walk_at "dw"
        exact out_same rfl (q _ (((hs.take _).app (.one hc)).app (hs.drop _)) (by simp; omega) (by simp; omega))
end
end Fk

set_option Elab.async false
set_option linter.all false
set_option maxRecDepth 100000
set_option maxHeartbeats 4000000
namespace Fk
open PySem PySem.Spec PyProof.Rows L2 Fg Pu
local macro_rules | `(tactic| walk_at "rs") => `(tactic| first | exact rs_str | exact rs_int | exact rs_bl | exact rs_non | exact rs_nd | exact rs_cell rfl | exact rs_cell app_last | exact rs_cell (app_at (by assumption)) | exact rs_cell (by assumption) | exact rs_cell app_last2 | exact base_rs (by assumption) | exact pln_rs (by assumption) | assumption)
local macro_rules | `(tactic| walk_at "dw1") => `(tactic| first
  | with_reducible refine w_seq ?_
  | with_reducible refine w_asg ?_
  | with_reducible refine w_gname ?_
  | ((with_reducible refine' w_retC ?h1 ?h2 ?_); (case h1 => exact rfl); (case h2 => first | exact rfl | exact app_last | exact app_at (by assumption) | assumption | exact app_last2))
  | with_reducible refine w_ret ?_
  | with_reducible refine w_retK ?_
  | with_reducible refine w_minKey ?_
  | with_reducible refine d_leIS ?_
  | with_reducible refine d_eqI0 ?_
  | ((with_reducible refine' w_gtup ?h ?_); (case h => exact rfl))
  | with_reducible refine w_gcons ?_
  | with_reducible refine w_gnil ?_
  | ((with_reducible refine' gv_tup ?h ?_); (case h => exact rfl))
  | with_reducible refine gv_cons ?_
  | with_reducible refine gv_nil ?_
  | ((with_reducible refine' gv_name ?h ?_); (case h => decide))
  | with_reducible refine w_retN ?_
  | with_reducible refine w_next ?_
  | with_reducible refine w_break ?_
  | with_reducible refine w_cont ?_
  | with_reducible refine w_drop ?_
  | with_reducible refine w_ifS ?_
  | with_reducible refine w_if ?_
  | with_reducible refine w_par ?_
  | with_reducible refine w_pair ?_
  | ((with_reducible refine' w_rng1 ?h ?_); (case h => omega))
  | ((with_reducible refine' w_rng2 ?h ?_); (case h => omega))
  | with_reducible refine w_test ?_
  | with_reducible refine w_tB ?_
  | with_reducible refine w_not ?_
  | with_reducible refine w_and ?_
  | with_reducible refine w_or ?_
  | with_reducible refine w_andV ?_
  | with_reducible refine w_orV ?_
  | with_reducible refine w_notV ?_
  | with_reducible refine w_nil ?_
  | with_reducible refine w_cons ?_
  | with_reducible refine w_call0 ?_
  | ((with_reducible refine' w_callX ?hE ?_); (case hE => assumption))
  | ((with_reducible refine' w_callS ?hW ?_); (case hW => assumption))
  | ((with_reducible refine' w_raise ?hE ?_); (case hE => assumption))
  | ((with_reducible refine' w_one ?h1 ?_); (case h1 => first | exact rfl | assumption))
  | with_reducible refine sp1_at ?_
  | with_reducible refine sp2_at ?_
  | with_reducible refine sp3_at ?_
  | with_reducible refine sp4_at ?_
  | with_reducible refine sp5_at ?_
  | with_reducible refine sp6_at ?_
  | with_reducible refine w_draw ?_
  | with_reducible refine w_cb ?_
  | with_reducible refine w_then ?_
  | with_reducible refine w_sl ?_
  | with_reducible refine w_nopart ?_
  | with_reducible refine w_part ?_
  | with_reducible refine w_op ?_
  | with_reducible refine w_un ?_
  | with_reducible refine w_chain ?_
  | ((with_reducible refine' w_var ?hv ?_); (case hv => exact rfl))
  | with_reducible refine w_cI ?_
  | with_reducible refine w_cB ?_
  | with_reducible refine w_cN ?_
  | with_reducible refine w_cS ?_
  | with_reducible refine w_cs ?_
  | with_reducible refine w_cR ?_
  | with_reducible refine w_yes ?_
  | ((with_reducible refine' w_fz1 ?h1 ?h2 ?_); (case h1 => exact rfl); (case h2 => first | exact rfl | exact app_last | exact app_at (by assumption) | assumption | exact app_last2))
  | with_reducible refine w_fz0 ?_
  | with_reducible refine w_dnewK ?_
  | with_reducible refine w_dnewT ?_
  | with_reducible refine w_bl ?_
  | with_reducible refine w_in ?_
  | with_reducible refine w_tru1 ?_
  | with_reducible refine w_tup ?_
  | with_reducible refine w_lst ?_
  | with_reducible refine w_lstC' ?_
  | ((with_reducible refine' w_mk ?h1 ?h2 ?_); (case h1 => first | exact rfl | assumption); (case h2 => exact small (Nat.le_of_ble_eq_true rfl)))
  | with_reducible refine w_strE ?_
  | ((with_reducible refine' w_lstE ?h1 ?_); (case h1 => walk_at "rs"))
  | with_reducible refine t_bl ?_
  | with_reducible refine t_non ?_
  | with_reducible refine t_int ?_
  | ((with_reducible refine' t_str ?h ?_); (case h => first | assumption | omega))
  | ((with_reducible refine' t_lst ?h ?_); (case h => walk_at "rs"))
  | ((with_reducible refine' t_tup ?h ?_); (case h => walk_at "rs"))
  | with_reducible refine w_bmS ?_
  | with_reducible refine w_bmL ?_
  | with_reducible refine d_addI ?_
  | with_reducible refine d_I0 ?_
  | with_reducible refine d_I0b ?_
  | with_reducible refine d_cmpI ?_
  | ((with_reducible refine' d_catS ?h ?_); (case h => first | exact small (by omega) | exact small (by simp; omega)))
  | ((with_reducible refine d_I ?hc ?_); (case hc => first | assumption | (show (0 : Int) < _; decide) | exact Or.inr ⟨by decide, by decide⟩ | exact Or.inr ⟨by omega, by omega⟩ | exact Or.inl ⟨by decide, by decide⟩ | exact (show CDivW _ _ from ⟨by decide, by decide +kernel⟩) | exact (show CPowW _ _ from ⟨by decide, by decide +kernel⟩) | (show (0 : Int) < _; omega)))
  | ((with_reducible refine' d_mulI ?h ?_); (case h => first | exact Or.inr ⟨by decide, by decide⟩ | exact Or.inr ⟨by omega, by omega⟩ | exact Or.inl ⟨by decide, by decide⟩ | exact Or.inl ⟨by omega, by omega⟩))
  | ((with_reducible refine' d_div ?h ?_); (case h => first | assumption | exact ⟨by decide, by decide⟩ | exact ⟨by omega, by omega⟩))
  | with_reducible refine d_neg ?_
  | ((with_reducible refine' d_lenS ?h ?_); (case h => first | exact small (by omega) | exact small (by simp; omega)))
  | ((with_reducible refine' d_lenL ?h ?_); (case h => walk_at "rs"))
  | ((with_reducible refine' d_lenT ?ht ?h ?_); (case h => walk_at "rs"); (case ht => first | exact Or.inl rfl | exact Or.inr rfl))
  | ((with_reducible refine' d_lenK ?h ?_); (case h => walk_at "rs"))
  | ((with_reducible refine' d_eqS ?_))
  | ((with_reducible refine' d_neS ?_))
  | ((with_reducible refine' d_eqI ?_))
  | ((with_reducible refine' d_neI ?_))
  | ((with_reducible refine' d_eqB ?_))
  | ((with_reducible refine' d_neB ?_))
  | with_reducible refine d_inS ?_
  | with_reducible refine d_ninS ?_
  | ((with_reducible refine' d_slS ?h ?_); (case h => first | exact small (by omega) | exact small (by simp; omega)))
  | ((with_reducible refine' d_slL ?h ?_); (case h => walk_at "rs"))
  | ((with_reducible refine' d_ixL' ?h1 ?h2 ?h3 ?_); (case h1 => walk_at "rs"); (case h2 => first | decide | omega); (case h3 => first | exact rfl | assumption))
  | ((with_reducible refine' d_ixT' ?ht ?h1 ?h2 ?h3 ?_); (case h1 => walk_at "rs"); (case ht => first | exact Or.inl rfl | exact Or.inr rfl); (case h2 => first | decide | omega); (case h3 => first | exact rfl | assumption))
  | ((with_reducible refine' d_isi ?h1 ?h2 ?h3 ?_); (case h1 => walk_at "rs"); (case h2 => first | exact rfl | assumption); (case h3 => first | exact kb_int_int | exact kb_int_bool | exact kb_int_str | exact kb_int_list | exact kb_int_tuple | exact kb_bool_int | exact kb_bool_bool | exact kb_bool_str | exact kb_bool_list | exact kb_bool_tuple | exact kb_str_int | exact kb_str_bool | exact kb_str_str | exact kb_str_list | exact kb_str_tuple | exact kb_NoneType_int | exact kb_NoneType_bool | exact kb_NoneType_str | exact kb_NoneType_list | exact kb_NoneType_tuple | exact kb_list_int | exact kb_list_bool | exact kb_list_str | exact kb_list_list | exact kb_list_tuple | exact kb_tuple_int | exact kb_tuple_bool | exact kb_tuple_str | exact kb_tuple_list | exact kb_tuple_tuple))
  | ((with_reducible refine' d_isStr ?h1 ?h2 ?_); (case h1 => walk_at "rs"); (case h2 => first | exact rfl | assumption))
  | ((with_reducible refine' d_isInt ?h1 ?h2 ?_); (case h1 => walk_at "rs"); (case h2 => first | exact rfl | assumption))
  | ((with_reducible refine' d_isBool ?h1 ?h2 ?_); (case h1 => walk_at "rs"); (case h2 => first | exact rfl | assumption))
  | ((with_reducible refine' d_isLst ?h1 ?h2 ?_); (case h1 => walk_at "rs"); (case h2 => first | exact rfl | assumption))
  | ((with_reducible refine' d_isTup ?h1 ?h2 ?_); (case h1 => walk_at "rs"); (case h2 => first | exact rfl | assumption))
  | ((with_reducible refine' d_isN ?h ?_); (case h => first | exact nr_non | exact nr_int | exact nr_str | exact nr_tk | exact nr_nd | exact nr_bl | exact nr_base (by assumption) | assumption))
  | ((with_reducible refine' d_notN ?h ?_); (case h => first | exact nr_non | exact nr_int | exact nr_str | exact nr_tk | exact nr_nd | exact nr_bl | exact nr_base (by assumption) | assumption))
  | with_reducible refine d_int ?_
  | with_reducible refine d_abs ?_
  | ((with_reducible refine' d_tupL ?h ?_); (case h => walk_at "rs"))
  | with_reducible refine d_tupT ?_
  | ((with_reducible refine' d_listL ?h ?_); (case h => walk_at "rs"))
  | ((with_reducible refine' d_listT ?ht ?h ?_); (case h => walk_at "rs"); (case ht => first | exact Or.inl rfl | exact Or.inr rfl))
  | ((with_reducible refine' d_append ?h1 ?h2 ?h3 ?_); (case h1 => first | exact rfl | exact app_last | exact app_at (by assumption) | assumption | exact app_last2); (case h2 => first | exact rfl | assumption); (case h3 => first | omega | (simp; omega)))
  | rw [clo_tk] | rw [clo_none] | rw [clo_str] | rw [clo_int] | rw [clo_node] | rw [clo_bl] | rw [clo_non] | rw [clo_nil] | rw [clo_ne (ne_at (by assumption))] | rw [clo_ne (ne_at' (by assumption))]
  | with_reducible refine w_T ?_
  | with_reducible refine w_F ?_
  | with_reducible refine w_nT ?_
  | with_reducible refine w_nF ?_
  | ((with_reducible refine And.intro ?h ?_); (case h => first | assumption | exact rfl | omega | exact ⟨_, rfl, rfl⟩ | exact isDraw_app (by assumption) | exact app_at (by assumption))))
local macro_rules | `(tactic| walk_at "dw") => `(tactic| ((try dsimp only); repeat (walk_at "dw1")))
open Rt

section
variable {P : Program} {w : World} {K : PySem.W.Frag} {T : Tbs} {mg : Str → Option Value} {base : Heap}
abbrev s_l_row : Stmt := topS 40
abbrev N_l_row : List Str := ["_law_draw_here", "_law_row_here", "_law_turn", "_law_kind"]
theorem sc_l_row : FnScope ["_law_draw_here", "_law_row_here", "_law_turn", "_law_kind"] ["_law_draw_here"] (defScope s_l_row) := ⟨rfl, rfl, rfl, by decide +kernel, rfl, by decide +kernel, by decide +kernel⟩
theorem can_l_row (B : Bi mg) (F : Defd K mg "_law_row" s_l_row ["_law_draw_here"]) (C_l_round : Can P w K mg base L2.CX0 4 "_law_round" ["_law_draw_here", "_law_most"] (mkSp K T sp_round)) (C_l_pick : Can P w K mg base L2.CX0 2 "_law_pick" ["_law_draw_here", "_law_many"] (mkSp K T spPickD)) (C_l_bent : Can P w K mg base L2.CX0 4 "_law_bent" ["_law_draw_here", "_law_row_here"] (mkSp K T sp_bent))  : Can P w K mg base L2.CX0 5 "_law_row" ["_law_draw_here"] (mkSp K T sp_row) := by
  refine canD0 F sc_l_row (fun ds τ Q E h => ?_) (fun f cdv A outer s H E ba ds τ Qd Ed hr h => ⟨_, (pss_cons (ps_set (i := 1) sc_l_row.nd rfl (by first | exact Or.inl rfl | exact Or.inr rfl) (pe_can C_l_round hr (by decide) rfl (pa_cons (pv 0) (pa_cons (pe_ix (ix_U (hu1 hr)) (pe_lst (pa_cons pe_int (pa_cons pe_int (pa_cons pe_int (pa_cons pe_int (pa_cons pe_int pa_nil)))))) (pe_can C_l_pick hr (by decide) rfl (pa_cons (pv 0) (pa_cons pe_int pa_nil))) (fun _ _ => rfl)) pa_nil))))
  (pss_cons (ps_for PassesOwn.never rfl (pi_range1 rfl B.b_range (pa_cons (pe_can C_l_pick hr (by decide) rfl (pa_cons (pv 0) (pa_cons pe_int pa_nil))) pa_nil)) (pg_name (i := 2) sc_l_row.nd rfl (by first | exact Or.inl rfl | exact Or.inr rfl))
    (pss_cons (ps_set (i := 3) sc_l_row.nd rfl (by first | exact Or.inl rfl | exact Or.inr rfl) (pe_can C_l_pick hr (by decide) rfl (pa_cons (pv 0) (pa_cons pe_int pa_nil))))
  (Evl.pss_cut (ps_if (pt_cmpR (op_ltU (hu64 hr)) (pv 3) pe_int (nomark _)) (pss_one (ps_set (i := 1) sc_l_row.nd rfl (by first | exact Or.inl rfl | exact Or.inr rfl) (pe_op op_mulU (pv 1) (pe_op op_addU pe_int (pe_can C_l_pick hr (by decide) rfl (pa_cons (pv 0) (pa_cons pe_int pa_nil))))))) (pss_one (ps_if (pt_cmpR (op_eqP (hu64 hr)) (pv 3) pe_int (nomark _)) (pss_one (ps_set (i := 1) sc_l_row.nd rfl (by first | exact Or.inl rfl | exact Or.inr rfl) (pe_op op_addU (pv 1) (pe_can C_l_round hr (by decide) rfl (pa_cons (pv 0) (pa_cons pe_int pa_nil)))))) (pss_one (ps_if (pt_cmpR (op_eqP (hu64 hr)) (pv 3) pe_int (nomark _)) (pss_one (ps_set (i := 1) sc_l_row.nd rfl (by first | exact Or.inl rfl | exact Or.inr rfl) (pe_op op_addU (pv 1) (pe_slice sl_U (pv 1) (po_some (pe_can C_l_pick hr (by decide) rfl (pa_cons (pv 0) (pa_cons (pe_callB call_lenU (by rfl) B.b_len boot_len (pa_cons (pv 1) pa_nil)) pa_nil)))) po_none)))) (pss_one (ps_if (pt_cmpR (op_eqP (hu64 hr)) (pv 3) pe_int (nomark _)) (pss_one (ps_set (i := 1) sc_l_row.nd rfl (by first | exact Or.inl rfl | exact Or.inr rfl) (pe_op op_addU (pv 1) (pe_op op_mulU (pe_strL [46] (by decide +kernel)) (pe_op op_addU pe_int (pe_can C_l_pick hr (by decide) rfl (pa_cons (pv 0) (pa_cons pe_int pa_nil)))))))) (pss_one (ps_set (i := 1) sc_l_row.nd rfl (by first | exact Or.inl rfl | exact Or.inr rfl) (pe_op op_addU (pv 1) (pe_op op_mulU (pe_ix (ix_U (hu1 hr)) (pe_strL [103, 119] (by decide +kernel)) (pe_can C_l_pick hr (by decide) rfl (pa_cons (pv 0) (pa_cons pe_int pa_nil))) (fun _ _ => rfl)) (pe_op op_addU pe_int (pe_can C_l_pick hr (by decide) rfl (pa_cons (pv 0) (pa_cons pe_int pa_nil)))))))))))))))
  (pss_one (ps_set (i := 1) sc_l_row.nd rfl (by first | exact Or.inl rfl | exact Or.inr rfl) (pe_slice sl_U (pv 1) po_none (po_some pe_int)))))))
  (Evl.pss_cut (ps_if (pt_cmpR (op_eqP (hu64 hr)) (pe_can C_l_pick hr (by decide) rfl (pa_cons (pv 0) (pa_cons pe_int pa_nil))) pe_int (nomark _)) (pss_one (ps_set (i := 1) sc_l_row.nd rfl (by first | exact Or.inl rfl | exact Or.inr rfl) (pe_slice sl_U (pe_can C_l_bent hr (by decide) rfl (pa_cons (pv 0) (pa_cons (pv 1) pa_nil))) po_none (po_some pe_int)))) pss_nil)
  (pss_one (ps_ret (pv 1)))))), ?_⟩)
  · obtain ⟨_, rfl, _⟩ := h
    rfl
  · obtain ⟨v_draw_here, rfl, h⟩ := h
    show WS K ba _ [some v_draw_here, none, none, none] τ _
    dsimp only [cxOf, Cx.nox, Cx.wish, Cx.tr, Cx.suite, Cx.blk]
    obtain ⟨hd, q⟩ := h
    walk_at "dw"
    refine sp_pick hd (by omega) fun k k0 k1 => ?_
    walk_at "dw"
    obtain ⟨m, hm, m1, m2⟩ : ∃ m : Int, [D.int 3, D.int 3, D.int 3, D.int 6, D.int 24][k.toNat]? = some (.int m) ∧ 1 ≤ m ∧ m ≤ 24 := by
      have : k = 0 ∨ k = 1 ∨ k = 2 ∨ k = 3 ∨ k = 4 := by omega
      rcases this with rfl | rfl | rfl | rfl | rfl <;> exact ⟨_, rfl, by decide, by decide⟩
    refine d_ixL' rs_nd k0 hm ?_
    walk_at "dw"
    refine fun l hs l1 l24 => ?_
    walk_at "dw"
    refine w_for (fun i ρ' τ' => ∃ (l : List Nat) (o2 o3 : Option D), ρ' = [some v_draw_here, some (.str l), o2, o3] ∧ τ' = τ ∧ AllSg l ∧ 1 ≤ l.length ∧ l.length ≤ 24) (w_iRng1 ?_)
    walk_at "dw"
    refine sp_pick hd (by omega) fun t t0 t1 => ?_
    walk_at "dw"
    refine ⟨⟨l, none, none, rfl, rfl, hs, l1, l24⟩, fun _ _ _ _ _ => trivial, fun i ρ' τ' hi hJ => ?_, fun ρ' τ' hJ => ?_⟩
    · obtain ⟨l, o2, o3, rfl, rfl, hs, l1, l24⟩ := hJ
      walk_at "dw"
      refine sp_pick hd (by omega) fun c c0 c1 => ?_
      walk_at "dw"
      refine w_cut (fun ρ' τ'' => ∃ l2, ρ' = [some v_draw_here, some (D.str l2), some (D.int (i : Int)), some (D.int c)] ∧ τ'' = τ' ∧ AllSg l2 ∧ 1 ≤ l2.length ∧ l2.length ≤ 200) ?_ ?_
      · walk_at "dw"
        refine w_ite (fun h1 => ?_) (fun h1 => ?_)
        · walk_at "dw"
          refine sp_pick hd (by omega) fun n n0 n1 => ?_
          have hz := Nat.mul_le_mul l24 (show (2 + n).toNat ≤ 4 by omega)
          have hz2 := Nat.mul_le_mul l1 (show 2 ≤ (2 + n).toNat by omega)
          walk_at "dw"
          refine d_repS (by omega) (by omega) (small (by omega)) ?_
          walk_at "dw"
          refine ⟨_, rfl, rfl, hs.rep _, ?_, ?_⟩ <;> rw [rep_len', Nat.mul_comm] <;> omega
        · walk_at "dw"
          refine w_ite (fun h2 => ?_) (fun h2 => ?_)
          · walk_at "dw"
            refine fun l2 s2 z1 z2 => ?_
            walk_at "dw"
            exact ⟨_, rfl, rfl, hs.app s2, by rw [List.length_append]; omega, by rw [List.length_append]; omega⟩
          · walk_at "dw"
            refine w_ite (fun h3 => ?_) (fun h3 => ?_)
            · walk_at "dw"
              refine sp_pick hd (by omega) fun n n0 n1 => ?_
              walk_at "dw"
              rw [cut_from n0]
              walk_at "dw"
              exact ⟨_, rfl, rfl, hs.app (hs.drop _), by simp; omega, by simp; omega⟩
            · walk_at "dw"
              refine w_ite (fun h4 => ?_) (fun h4 => ?_)
              · walk_at "dw"
                refine sp_pick hd (by omega) fun n n0 n1 => ?_
                walk_at "dw"
                refine d_repS (by omega) (by omega) (small (by show 1 * _ ≤ _; omega)) ?_
                have lr := rep_len' (1 + n).toNat [46]
                rw [show (([46] : List Nat)).length = 1 from rfl, Nat.mul_one] at lr
                walk_at "dw"
                exact ⟨_, rfl, rfl, hs.app ((AllSg.one (by decide)).rep _), by rw [List.length_append]; omega, by rw [List.length_append]; omega⟩
              · walk_at "dw"
                refine sp_pick hd (by omega) fun g g0 g1 => ?_
                walk_at "dw"
                refine d_ixS' (small (Nat.le_of_ble_eq_true rfl)) g0 (get_gd (by show _ < 2; omega)) ?_
                walk_at "dw"
                refine sp_pick hd (by omega) fun n n0 n1 => ?_
                walk_at "dw"
                refine d_repS (by omega) (by omega) (small (by show 1 * _ ≤ _; omega)) ?_
                have lr := rep_len' (1 + n).toNat [([103, 119] : List Nat).getD g.toNat 0]
                rw [show ([([103, 119] : List Nat).getD g.toNat 0]).length = 1 from rfl, Nat.mul_one] at lr
                walk_at "dw"
                exact ⟨_, rfl, rfl, hs.app ((AllSg.one (sg2 ⟨g.toNat, by omega⟩)).rep _), by rw [List.length_append]; omega, by rw [List.length_append]; omega⟩
      · rintro ρ2 τ2 ⟨l2, rfl, rfl, s2, z1, z2⟩
        walk_at "dw"
        rw [cut_to (by decide)]
        exact ⟨_, _, _, rfl, rfl, s2.take _, by simp; omega, by simp; omega⟩
    · obtain ⟨l, o2, o3, rfl, rfl, hs, l1, l24⟩ := hJ
      walk_at "dw"
      refine w_cut (fun ρ' τ'' => ∃ l2, ρ' = [some v_draw_here, some (D.str l2), o2, o3] ∧ τ'' = τ' ∧ AllSg l2 ∧ 1 ≤ l2.length ∧ l2.length ≤ 24) ?_ ?_
      · walk_at "dw"
        refine sp_pick hd (by omega) fun c c0 c1 => ?_
        walk_at "dw"
        refine w_ite (fun h1 => ?_) (fun h1 => ?_)
        · walk_at "dw"
          refine fun l2 s2 z1 z2 => ?_
          walk_at "dw"
          rw [cut_to (by decide)]
          exact ⟨_, rfl, rfl, s2.take _, by simp; omega, by simp; omega⟩
        · walk_at "dw"
          exact ⟨_, rfl, rfl, hs, l1, l24⟩
      · rintro ρ2 τ2 ⟨l2, rfl, rfl, s2, z1, z2⟩
        walk_at "dw"
        exact out_same rfl (q l2 s2 z1 z2)
def optS : Option (List Nat) → D
  | none => .non
  | some l => .str l
instance (a b : List Nat) : Decidable (Le a b) := by unfold Le; infer_instance
def better : Option (List Nat) → Option (List Nat) → Option (List Nat)
  | none, b => b
  | some a, none => some a
  | some a, some b => if Le a b then some a else some b
def Sh (n : Nat) (o : Option (List Nat)) : Prop := ∀ s, o = some s → s.length ≤ n
theorem Sh.mono {m n : Nat} {o : Option (List Nat)} (h : Sh m o) (e : m ≤ n) : Sh n o := fun s z => Nat.le_trans (h s z) e
theorem better_cases (a b : Option (List Nat)) : better a b = a ∨ better a b = b := by
  cases a with
  | none => exact .inr rfl
  | some a =>
    cases b with
    | none => exact .inl rfl
    | some b =>
      show (if Le a b then some a else some b) = some a ∨ (if Le a b then some a else some b) = some b
      split
      · exact .inl rfl
      · exact .inr rfl
theorem better_sh {n : Nat} {a b : Option (List Nat)} (ha : Sh n a) (hb : Sh n b) : Sh n (better a b) := by
  rcases better_cases a b with h | h <;> rw [h] <;> assumption
theorem better_some {a b : List Nat} : better (some a) (some b) = if Le a b then some a else some b := rfl
/-- it is the least of both -/
theorem better_least {P Q : List Nat → Prop} {a b : Option (List Nat)} (ha : match a with
    | none => ∀ t, ¬ P t
    | some s => P s ∧ ∀ t, P t → Le s t) (hb : match b with
    | none => ∀ t, ¬ Q t
    | some s => Q s ∧ ∀ t, Q t → Le s t) : match better a b with
    | none => ∀ t, ¬ (P t ∨ Q t)
    | some s => (P s ∨ Q s) ∧ ∀ t, (P t ∨ Q t) → Le s t := by
  cases a with
  | none =>
    cases b with
    | none => exact fun t z => z.elim (ha t) (hb t)
    | some b => exact ⟨.inr hb.1, fun t z => z.elim (fun h => absurd h (ha t)) (hb.2 t)⟩
  | some a =>
    cases b with
    | none => exact ⟨.inl ha.1, fun t z => z.elim (ha.2 t) fun h => absurd h (hb t)⟩
    | some b =>
      rw [better_some]
      by_cases h : Le a b
      · rw [if_pos h]
        exact ⟨.inl ha.1, fun t z => z.elim (ha.2 t) fun h2 => h.trans (hb.2 t h2)⟩
      · rw [if_neg h]
        have h' : Le b a := (Le.total a b).resolve_left h
        exact ⟨.inr hb.1, fun t z => z.elim (fun h2 => h'.trans (ha.2 t h2)) (hb.2 t)⟩
abbrev sp_better : SpD := sp2 fun a b τ Q _ => ∃ o p, a = optS o ∧ b = optS p ∧ (Sh 100000 o ∧ Sh 100000 p) ∧ Q (optS (better o p)) τ

abbrev s_l_better : Stmt := topS 41
abbrev N_l_better : List Str := ["_law_one", "_law_two"]
theorem sc_l_better : FnScope ["_law_one", "_law_two"] ["_law_one", "_law_two"] (defScope s_l_better) := ⟨rfl, rfl, rfl, by decide +kernel, rfl, by decide +kernel, by decide +kernel⟩
theorem can_l_better (B : Bi mg) (F : Defd K mg "_law_better" s_l_better ["_law_one", "_law_two"])   : Can P w K mg base L2.CX0 1 "_law_better" ["_law_one", "_law_two"] (mkSp K T sp_better) := by
  refine canD0 F sc_l_better (fun ds τ Q E h => ?_) (fun f cdv A outer s H E ba ds τ Qd Ed hr h => ⟨_, (pss_cons (ps_if (pt_cmpR op_isN1 (pv 0) pe_non (nomark _)) (pss_one (ps_ret (pv 1))) pss_nil)
  (pss_cons (ps_if (PW.pt (pw_or (pt_cmpR op_isN1 (pv 1) pe_non (nomark _)) (pw_or1 (pt_cmpR (op_leIS (Nat.lt_trans (Nat.lt_succ_self _) (hu1 hr))) (pe_tup (pa_cons (pe_callB call_lenU (by rfl) B.b_len boot_len (pa_cons (pv 0) pa_nil)) (pa_cons (pv 0) pa_nil))) (pe_tup (pa_cons (pe_callB call_lenU (by rfl) B.b_len boot_len (pa_cons (pv 1) pa_nil)) (pa_cons (pv 1) pa_nil))) (nomark _))))) (pss_one (ps_ret (pv 0))) pss_nil)
  (pss_one (ps_ret (pv 1))))), ?_⟩)
  · obtain ⟨_, _, rfl, _⟩ := h
    rfl
  · obtain ⟨v_one, v_two, rfl, h⟩ := h
    show WS K ba _ [some v_one, some v_two] τ _
    dsimp only [cxOf, Cx.nox, Cx.wish, Cx.tr, Cx.suite, Cx.blk]
    obtain ⟨o, p, rfl, rfl, ⟨ho, hp⟩, q⟩ := h
    cases o with
    | none =>
      dsimp only [optS] at q ⊢
      walk_at "dw"
      refine w_T' rfl ?_
      walk_at "dw"
      have nk : notk [optS p] = true := by cases p <;> rfl
      exact out_same nk q
    | some a =>
      have la := ho a rfl
      cases p with
      | none =>
        dsimp only [optS] at q ⊢
        walk_at "dw"
        refine w_F' rfl ?_
        walk_at "dw"
        refine w_T' rfl ?_
        walk_at "dw"
        exact out_same rfl q
      | some b =>
        have lb := hp b rfl
        rw [better_some] at q
        dsimp only [optS] at q ⊢
        walk_at "dw"
        refine w_F' rfl ?_
        walk_at "dw"
        refine w_F' rfl ?_
        walk_at "dw"
        have e : decide ((a.length : Int) < b.length ∨ (a.length : Int) = b.length ∧ a ≤ b) = decide (Le a b) := decide_eq_decide.mpr ⟨fun h => h.elim (fun h => .inl (by omega)) fun h => .inr ⟨by omega, h.2⟩, fun h => h.elim (fun h => .inl (by omega)) fun h => .inr ⟨by omega, h.2⟩⟩
        rw [e]
        refine w_ite (fun h => ?_) (fun h => ?_)
        · rw [if_pos h] at q
          walk_at "dw"
          exact out_same rfl q
        · rw [if_neg h] at q
          walk_at "dw"
          exact out_same rfl q
end
end Fk

set_option Elab.async false
set_option linter.all false
set_option maxRecDepth 100000
set_option maxHeartbeats 4000000
namespace Fk
open PySem PySem.Spec PyProof.Rows L2 Fg Pu
local macro_rules | `(tactic| walk_at "rs") => `(tactic| first | exact rs_str | exact rs_int | exact rs_bl | exact rs_non | exact rs_nd | exact rs_cell rfl | exact rs_cell app_last | exact rs_cell (app_at (by assumption)) | exact rs_cell (by assumption) | exact rs_cell app_last2 | exact base_rs (by assumption) | exact pln_rs (by assumption) | assumption)
local macro_rules | `(tactic| walk_at "dw1") => `(tactic| first
  | with_reducible refine w_seq ?_
  | with_reducible refine w_asg ?_
  | with_reducible refine w_gname ?_
  | ((with_reducible refine' w_retC ?h1 ?h2 ?_); (case h1 => exact rfl); (case h2 => first | exact rfl | exact app_last | exact app_at (by assumption) | assumption | exact app_last2))
  | with_reducible refine w_ret ?_
  | with_reducible refine w_retK ?_
  | with_reducible refine w_minKey ?_
  | with_reducible refine d_leIS ?_
  | with_reducible refine d_eqI0 ?_
  | ((with_reducible refine' w_gtup ?h ?_); (case h => exact rfl))
  | with_reducible refine w_gcons ?_
  | with_reducible refine w_gnil ?_
  | ((with_reducible refine' gv_tup ?h ?_); (case h => exact rfl))
  | with_reducible refine gv_cons ?_
  | with_reducible refine gv_nil ?_
  | ((with_reducible refine' gv_name ?h ?_); (case h => decide))
  | with_reducible refine w_retN ?_
  | with_reducible refine w_next ?_
  | with_reducible refine w_break ?_
  | with_reducible refine w_cont ?_
  | with_reducible refine w_drop ?_
  | with_reducible refine w_ifS ?_
  | with_reducible refine w_if ?_
  | with_reducible refine w_par ?_
  | with_reducible refine w_pair ?_
  | ((with_reducible refine' w_rng1 ?h ?_); (case h => omega))
  | ((with_reducible refine' w_rng2 ?h ?_); (case h => omega))
  | with_reducible refine w_test ?_
  | with_reducible refine w_tB ?_
  | with_reducible refine w_not ?_
  | with_reducible refine w_and ?_
  | with_reducible refine w_or ?_
  | with_reducible refine w_andV ?_
  | with_reducible refine w_orV ?_
  | with_reducible refine w_notV ?_
  | with_reducible refine w_nil ?_
  | with_reducible refine w_cons ?_
  | with_reducible refine w_call0 ?_
  | ((with_reducible refine' w_callX ?hE ?_); (case hE => assumption))
  | ((with_reducible refine' w_callS ?hW ?_); (case hW => assumption))
  | ((with_reducible refine' w_raise ?hE ?_); (case hE => assumption))
  | ((with_reducible refine' w_one ?h1 ?_); (case h1 => first | exact rfl | assumption))
  | with_reducible refine sp1_at ?_
  | with_reducible refine sp2_at ?_
  | with_reducible refine sp3_at ?_
  | with_reducible refine sp4_at ?_
  | with_reducible refine sp5_at ?_
  | with_reducible refine sp6_at ?_
  | with_reducible refine w_draw ?_
  | with_reducible refine w_cb ?_
  | with_reducible refine w_then ?_
  | with_reducible refine w_sl ?_
  | with_reducible refine w_nopart ?_
  | with_reducible refine w_part ?_
  | with_reducible refine w_op ?_
  | with_reducible refine w_un ?_
  | with_reducible refine w_chain ?_
  | ((with_reducible refine' w_var ?hv ?_); (case hv => exact rfl))
  | with_reducible refine w_cI ?_
  | with_reducible refine w_cB ?_
  | with_reducible refine w_cN ?_
  | with_reducible refine w_cS ?_
  | with_reducible refine w_cs ?_
  | with_reducible refine w_cR ?_
  | with_reducible refine w_yes ?_
  | ((with_reducible refine' w_fz1 ?h1 ?h2 ?_); (case h1 => exact rfl); (case h2 => first | exact rfl | exact app_last | exact app_at (by assumption) | assumption | exact app_last2))
  | with_reducible refine w_fz0 ?_
  | with_reducible refine w_dnewK ?_
  | with_reducible refine w_dnewT ?_
  | with_reducible refine w_bl ?_
  | with_reducible refine w_in ?_
  | with_reducible refine w_tru1 ?_
  | with_reducible refine w_tup ?_
  | with_reducible refine w_lst ?_
  | with_reducible refine w_lstC' ?_
  | ((with_reducible refine' w_mk ?h1 ?h2 ?_); (case h1 => first | exact rfl | assumption); (case h2 => exact small (Nat.le_of_ble_eq_true rfl)))
  | with_reducible refine w_strE ?_
  | ((with_reducible refine' w_lstE ?h1 ?_); (case h1 => walk_at "rs"))
  | with_reducible refine t_bl ?_
  | with_reducible refine t_non ?_
  | with_reducible refine t_int ?_
  | ((with_reducible refine' t_str ?h ?_); (case h => first | assumption | omega))
  | ((with_reducible refine' t_lst ?h ?_); (case h => walk_at "rs"))
  | ((with_reducible refine' t_tup ?h ?_); (case h => walk_at "rs"))
  | with_reducible refine w_bmS ?_
  | with_reducible refine w_bmL ?_
  | with_reducible refine d_addI ?_
  | with_reducible refine d_I0 ?_
  | with_reducible refine d_I0b ?_
  | with_reducible refine d_cmpI ?_
  | ((with_reducible refine' d_catS ?h ?_); (case h => first | exact small (by omega) | exact small (by simp; omega)))
  | ((with_reducible refine d_I ?hc ?_); (case hc => first | assumption | (show (0 : Int) < _; decide) | exact Or.inr ⟨by decide, by decide⟩ | exact Or.inr ⟨by omega, by omega⟩ | exact Or.inl ⟨by decide, by decide⟩ | exact (show CDivW _ _ from ⟨by decide, by decide +kernel⟩) | exact (show CPowW _ _ from ⟨by decide, by decide +kernel⟩) | (show (0 : Int) < _; omega)))
  | ((with_reducible refine' d_mulI ?h ?_); (case h => first | exact Or.inr ⟨by decide, by decide⟩ | exact Or.inr ⟨by omega, by omega⟩ | exact Or.inl ⟨by decide, by decide⟩ | exact Or.inl ⟨by omega, by omega⟩))
  | ((with_reducible refine' d_div ?h ?_); (case h => first | assumption | exact ⟨by decide, by decide⟩ | exact ⟨by omega, by omega⟩))
  | with_reducible refine d_neg ?_
  | ((with_reducible refine' d_lenS ?h ?_); (case h => first | exact small (by omega) | exact small (by simp; omega)))
  | ((with_reducible refine' d_lenL ?h ?_); (case h => walk_at "rs"))
  | ((with_reducible refine' d_lenT ?ht ?h ?_); (case h => walk_at "rs"); (case ht => first | exact Or.inl rfl | exact Or.inr rfl))
  | ((with_reducible refine' d_lenK ?h ?_); (case h => walk_at "rs"))
  | ((with_reducible refine' d_eqS ?_))
  | ((with_reducible refine' d_neS ?_))
  | ((with_reducible refine' d_eqI ?_))
  | ((with_reducible refine' d_neI ?_))
  | ((with_reducible refine' d_eqB ?_))
  | ((with_reducible refine' d_neB ?_))
  | with_reducible refine d_inS ?_
  | with_reducible refine d_ninS ?_
  | ((with_reducible refine' d_slS ?h ?_); (case h => first | exact small (by omega) | exact small (by simp; omega)))
  | ((with_reducible refine' d_slL ?h ?_); (case h => walk_at "rs"))
  | ((with_reducible refine' d_ixL' ?h1 ?h2 ?h3 ?_); (case h1 => walk_at "rs"); (case h2 => first | decide | omega); (case h3 => first | exact rfl | assumption))
  | ((with_reducible refine' d_ixT' ?ht ?h1 ?h2 ?h3 ?_); (case h1 => walk_at "rs"); (case ht => first | exact Or.inl rfl | exact Or.inr rfl); (case h2 => first | decide | omega); (case h3 => first | exact rfl | assumption))
  | ((with_reducible refine' d_isi ?h1 ?h2 ?h3 ?_); (case h1 => walk_at "rs"); (case h2 => first | exact rfl | assumption); (case h3 => first | exact kb_int_int | exact kb_int_bool | exact kb_int_str | exact kb_int_list | exact kb_int_tuple | exact kb_bool_int | exact kb_bool_bool | exact kb_bool_str | exact kb_bool_list | exact kb_bool_tuple | exact kb_str_int | exact kb_str_bool | exact kb_str_str | exact kb_str_list | exact kb_str_tuple | exact kb_NoneType_int | exact kb_NoneType_bool | exact kb_NoneType_str | exact kb_NoneType_list | exact kb_NoneType_tuple | exact kb_list_int | exact kb_list_bool | exact kb_list_str | exact kb_list_list | exact kb_list_tuple | exact kb_tuple_int | exact kb_tuple_bool | exact kb_tuple_str | exact kb_tuple_list | exact kb_tuple_tuple))
  | ((with_reducible refine' d_isStr ?h1 ?h2 ?_); (case h1 => walk_at "rs"); (case h2 => first | exact rfl | assumption))
  | ((with_reducible refine' d_isInt ?h1 ?h2 ?_); (case h1 => walk_at "rs"); (case h2 => first | exact rfl | assumption))
  | ((with_reducible refine' d_isBool ?h1 ?h2 ?_); (case h1 => walk_at "rs"); (case h2 => first | exact rfl | assumption))
  | ((with_reducible refine' d_isLst ?h1 ?h2 ?_); (case h1 => walk_at "rs"); (case h2 => first | exact rfl | assumption))
  | ((with_reducible refine' d_isTup ?h1 ?h2 ?_); (case h1 => walk_at "rs"); (case h2 => first | exact rfl | assumption))
  | ((with_reducible refine' d_isN ?h ?_); (case h => first | exact nr_non | exact nr_int | exact nr_str | exact nr_tk | exact nr_nd | exact nr_bl | exact nr_base (by assumption) | assumption))
  | ((with_reducible refine' d_notN ?h ?_); (case h => first | exact nr_non | exact nr_int | exact nr_str | exact nr_tk | exact nr_nd | exact nr_bl | exact nr_base (by assumption) | assumption))
  | with_reducible refine d_int ?_
  | with_reducible refine d_abs ?_
  | ((with_reducible refine' d_tupL ?h ?_); (case h => walk_at "rs"))
  | with_reducible refine d_tupT ?_
  | ((with_reducible refine' d_listL ?h ?_); (case h => walk_at "rs"))
  | ((with_reducible refine' d_listT ?ht ?h ?_); (case h => walk_at "rs"); (case ht => first | exact Or.inl rfl | exact Or.inr rfl))
  | ((with_reducible refine' d_append ?h1 ?h2 ?h3 ?_); (case h1 => first | exact rfl | exact app_last | exact app_at (by assumption) | assumption | exact app_last2); (case h2 => first | exact rfl | assumption); (case h3 => first | omega | (simp; omega)))
  | rw [clo_tk] | rw [clo_none] | rw [clo_str] | rw [clo_int] | rw [clo_node] | rw [clo_bl] | rw [clo_non] | rw [clo_nil] | rw [clo_ne (ne_at (by assumption))] | rw [clo_ne (ne_at' (by assumption))]
  | with_reducible refine w_T ?_
  | with_reducible refine w_F ?_
  | with_reducible refine w_nT ?_
  | with_reducible refine w_nF ?_
  | ((with_reducible refine And.intro ?h ?_); (case h => first | assumption | exact rfl | omega | exact ⟨_, rfl, rfl⟩ | exact isDraw_app (by assumption) | exact app_at (by assumption))))
local macro_rules | `(tactic| walk_at "dw") => `(tactic| ((try dsimp only); repeat (walk_at "dw1")))
open Rt

section
variable {P : Program} {w : World} {K : PySem.W.Frag} {T : Tbs} {mg : Str → Option Value} {base : Heap}
def sub (l : List Nat) (lo k : Nat) : List Nat := (l.drop lo).take k
theorem sub_len {l : List Nat} {lo k : Nat} (h : lo + k ≤ l.length) : (sub l lo k).length = k := dt_len h
theorem sub_take {l : List Nat} {lo m k : Nat} (h : k ≤ m) : (sub l lo m).take k = sub l lo k := by
  unfold sub
  rw [List.take_take, Nat.min_eq_left h]
theorem sub_drop {l : List Nat} {lo m k : Nat} : (sub l lo m).drop k = sub l (lo + k) (m - k) := by
  unfold sub
  rw [List.drop_take, List.drop_drop]
theorem sub_cut {l : List Nat} {x y : Int} {lo m : Nat} (hx : x = lo) (hy : y = lo + m) : cutL l (some x) (some y) = sub l lo m := by
  rw [cut_mid (by omega) (by omega), hx, hy]
  unfold sub
  congr 1
  omega
theorem sub_one {l : List Nat} {lo : Nat} (h : lo < l.length) : sub l lo 1 = [l.getD lo 0] := by
  unfold sub
  rw [List.drop_eq_getElem_cons h, List.take_succ_cons, List.take_zero, List.getD_eq_getElem?_getD, List.getElem?_eq_getElem h]
  rfl
def Least (P : List Nat → Prop) (o : Option (List Nat)) : Prop := match o with
  | none => ∀ t, ¬ P t
  | some s => P s ∧ ∀ t, P t → Le s t
theorem Least.congr {P Q : List Nat → Prop} {o : Option (List Nat)} (h : Least P o) (e : ∀ t, Q t ↔ P t) : Least Q o := by
  cases o with
  | none => exact fun t q => h t ((e t).mp q)
  | some s => exact ⟨(e s).mpr h.1, fun t q => h.2 t ((e t).mp q)⟩
theorem Least.or {P Q : List Nat → Prop} {a b : Option (List Nat)} (ha : Least P a) (hb : Least Q b) : Least (fun t => P t ∨ Q t) (better a b) := better_least ha hb
theorem Least.is (t : List Nat) : Least (fun s => s = t) (some t) := ⟨rfl, fun _ h => h ▸ Le.refl _⟩
theorem Sh.mk {n : Nat} {t : List Nat} (h : t.length ≤ n) : Sh n (some t) := fun _ e => by
  rw [← Option.some.inj e]
  exact h
theorem IsS.least {r : List Nat} {o : Option (List Nat)} (h : IsS r o) : Least (SW r) o := by
  cases o <;> exact h
theorem IsS.eq {r : List Nat} {o p : Option (List Nat)} (h : IsS r o) (k : IsS r p) : o = p := by
  cases o with
  | none =>
    cases p with
    | none => rfl
    | some s => exact absurd k.1 (h s)
  | some t =>
    cases p with
    | none => exact absurd h.1 (k t)
    | some s => rw [(h.2 _ k.1).anti (k.2 _ h.1)]
open Classical in
noncomputable def sT (r : List Nat) : Option (List Nat) := if h : ∃ o, IsS r o then h.choose else none
theorem sT_eq {r : List Nat} {o : Option (List Nat)} (h : IsS r o) : o = sT r := by
  unfold sT
  rw [dif_pos ⟨o, h⟩]
  exact IsS.eq h (Exists.choose_spec (⟨o, h⟩ : ∃ o, IsS r o))
def ky (lo k : Nat) : List Key := [.inl (lo : Int), .inl ((lo : Int) + (k : Int))]
theorem ky_inj {lo k lo' k' : Nat} (h : ky lo k = ky lo' k') : lo = lo' ∧ k = k' := by
  unfold ky at h
  simp at h
  omega
theorem keys2 {x y : Int} {lo k : Nat} (hx : x = lo) (hy : y = lo + k) : keysOf [.int x, .int y] = some (ky lo k) := by
  subst hx hy
  rfl
/-- the shortest text of a window is told -/
def HasP (kvs : List (List Key × D)) (l : List Nat) (lo k : Nat) : Prop := valD kvs (ky lo k) = some (.str (minT (sub l lo k))) ∧ IsMin (sub l lo k) (minT (sub l lo k))
/-- its shortest single item is told -/
def HasS (kvs : List (List Key × D)) (l : List Nat) (lo k : Nat) : Prop := valD kvs (ky lo k) = some (optS (sT (sub l lo k))) ∧ IsS (sub l lo k) (sT (sub l lo k)) ∧ Sh 1000 (sT (sub l lo k))
theorem HasP.put {kvs : List (List Key × D)} {l : List Nat} {lo k lo' k' : Nat} (h : HasP kvs l lo k) : HasP (putD kvs (ky lo' k') (.str (minT (sub l lo' k')))) l lo k := by
  refine ⟨?_, h.2⟩
  rw [valD_put]
  split
  · rename_i e
    obtain ⟨rfl, rfl⟩ := ky_inj e
    rfl
  · exact h.1
theorem HasP.new {kvs : List (List Key × D)} {l : List Nat} {lo k : Nat} (h : IsMin (sub l lo k) (minT (sub l lo k))) : HasP (putD kvs (ky lo k) (.str (minT (sub l lo k)))) l lo k := by
  refine ⟨?_, h⟩
  rw [valD_put, if_pos rfl]
theorem HasS.put {kvs : List (List Key × D)} {l : List Nat} {lo k lo' k' : Nat} (h : HasS kvs l lo k) : HasS (putD kvs (ky lo' k') (optS (sT (sub l lo' k')))) l lo k := by
  refine ⟨?_, h.2⟩
  rw [valD_put]
  split
  · rename_i e
    obtain ⟨rfl, rfl⟩ := ky_inj e
    rfl
  · exact h.1
theorem HasS.new {kvs : List (List Key × D)} {l : List Nat} {lo k : Nat} (h : IsS (sub l lo k) (sT (sub l lo k))) (h2 : Sh 1000 (sT (sub l lo k))) : HasS (putD kvs (ky lo k) (optS (sT (sub l lo k)))) l lo k := by
  refine ⟨?_, h, h2⟩
  rw [valD_put, if_pos rfl]
/-- what the law has tried, sizes below 1 + i -/
def SI (r : List Nat) (i : Nat) (t : List Nat) : Prop := ∃ k, 1 ≤ k ∧ k < 1 + i ∧ rep (r.length / k) (r.take k) = r ∧ ((k = 1 ∧ t = digs r.length ++ r.take 1) ∨ t = brk (r.length / k) (minT (r.take k)))
theorem SI_SC {r t : List Nat} (h2 : 2 ≤ r.length) : SC (fun k => minT (r.take k)) r t ↔ SI r (r.length / 2) t := by
  constructor
  · intro h
    cases h with
    | @dig n c h e =>
      obtain ⟨a1, a2, a3⟩ := rep_take (u := [c]) h (by simp)
      rw [e] at a1 a2 a3
      have ln : r.length = n := by rw [← e, rep_length]; simp
      refine ⟨1, Nat.le_refl _, by omega, ?_, .inl ⟨rfl, ?_⟩⟩
      · rw [Nat.div_one, ln]
        rw [show r.take 1 = [c] from a3]
        exact e
      · rw [ln, show r.take 1 = [c] from a3]
    | @brk k n h h2 e hl =>
      have lk : (r.take k).length = k := by rw [List.length_take]; omega
      have ln : r.length = n * k := by
        have := congrArg List.length e
        rw [rep_length, lk] at this
        exact this.symm
      have dn : r.length / k = n := by rw [ln]; exact Nat.mul_div_cancel _ (by omega)
      have k2 : k ≤ r.length / 2 := by
        rw [Nat.le_div_iff_mul_le (by decide), ln, Nat.mul_comm]
        exact Nat.mul_le_mul_right _ h2
      exact ⟨k, h, by omega, by rw [dn]; exact e, .inr (by rw [dn])⟩
  · rintro ⟨k, h, hk, e, h3⟩
    have k2 : k ≤ r.length / 2 := by omega
    have n2 : 2 ≤ r.length / k := by
      rw [Nat.le_div_iff_mul_le (by omega), Nat.mul_comm]
      exact (Nat.le_div_iff_mul_le (by decide)).mp k2
    rcases h3 with ⟨rfl, rfl⟩ | rfl
    · obtain ⟨c, hc⟩ := len_one (u := r.take 1) (by rw [List.length_take]; omega)
      rw [Nat.div_one] at e n2
      rw [hc] at e ⊢
      exact .dig n2 e
    · exact .brk h n2 e (by omega)
theorem SI_no {r t : List Nat} {i : Nat} (h : ¬ rep (r.length / (1 + i)) (r.take (1 + i)) = r) : SI r (i + 1) t ↔ SI r i t := by
  constructor
  · rintro ⟨k, h1, h2, e, h3⟩
    have hk : k ≠ 1 + i := fun z => h (by rw [← z]; exact e)
    exact ⟨k, h1, by omega, e, h3⟩
  · rintro ⟨k, h1, h2, e, h3⟩
    exact ⟨k, h1, by omega, e, h3⟩
theorem SI_yes {r t : List Nat} {i : Nat} (hi : 1 ≤ i) (h : rep (r.length / (1 + i)) (r.take (1 + i)) = r) : SI r (i + 1) t ↔ SI r i t ∨ t = brk (r.length / (1 + i)) (minT (r.take (1 + i))) := by
  constructor
  · rintro ⟨k, h1, h2, e, h3⟩
    by_cases hk : k = 1 + i
    · rcases h3 with ⟨z, _⟩ | h3
      · omega
      · exact .inr (by rw [h3, hk])
    · exact .inl ⟨k, h1, by omega, e, h3⟩
  · rintro (⟨k, h1, h2, e, h3⟩ | h3)
    · exact ⟨k, h1, by omega, e, h3⟩
    · exact ⟨1 + i, by omega, by omega, h, .inr h3⟩
theorem SI_one {r t : List Nat} (h : rep (r.length / 1) (r.take 1) = r) : SI r 1 t ↔ (SI r 0 t ∨ t = digs r.length ++ r.take 1) ∨ t = brk (r.length / 1) (minT (r.take 1)) := by
  constructor
  · rintro ⟨k, h1, h2, e, h3⟩
    obtain rfl : k = 1 := by omega
    rcases h3 with ⟨_, h3⟩ | h3
    · exact .inl (.inr h3)
    · exact .inr h3
  · rintro ((⟨k, h1, h2, _⟩ | h3) | h3)
    · omega
    · exact ⟨1, by omega, by omega, h, .inl ⟨rfl, h3⟩⟩
    · exact ⟨1, by omega, by omega, h, .inr h3⟩
abbrev sp_one_item : SpD := sp4 fun a b c d τ Q _ => ∃ l x y n kvs, a = .str l ∧ b = .int x ∧ c = .int y ∧ d = .tk n ∧ ∃ lo m : Nat, x = lo ∧ y = lo + m ∧ τ[n]? = some (.dit kvs) ∧ (1 ≤ m ∧ lo + m ≤ l.length ∧ l.length ≤ 24) ∧ (∀ k, 1 ≤ k → k < m → HasP kvs l lo k) ∧ (IsS (sub l lo m) (sT (sub l lo m)) → Sh 1000 (sT (sub l lo m)) → Q (optS (sT (sub l lo m))) τ)
theorem nk_opt {o : Option (List Nat)} : notk [optS o] = true := by cases o <;> rfl

abbrev s_l_one_item : Stmt := topS 42
abbrev N_l_one_item : List Str := ["_law_row_here", "_law_low", "_law_high", "_law_filled", "_law_many", "_law_best", "_law_size", "_law_times"]
theorem sc_l_one_item : FnScope ["_law_row_here", "_law_low", "_law_high", "_law_filled", "_law_many", "_law_best", "_law_size", "_law_times"] ["_law_row_here", "_law_low", "_law_high", "_law_filled"] (defScope s_l_one_item) := ⟨rfl, rfl, rfl, by decide +kernel, rfl, by decide +kernel, by decide +kernel⟩
theorem can_l_one_item (B : Bi mg) (F : Defd K mg "_law_one_item" s_l_one_item ["_law_row_here", "_law_low", "_law_high", "_law_filled"]) (C_l_better : Can P w K mg base L2.CX0 1 "_law_better" ["_law_one", "_law_two"] (mkSp K T sp_better))  : Can P w K mg base L2.CX0 2 "_law_one_item" ["_law_row_here", "_law_low", "_law_high", "_law_filled"] (mkSp K T sp_one_item) := by
  refine canD0 F sc_l_one_item (fun ds τ Q E h => ?_) (fun f cdv A outer s H E ba ds τ Qd Ed hr h => ⟨_, (pss_cons (ps_set (i := 4) sc_l_one_item.nd rfl (by first | exact Or.inl rfl | exact Or.inr rfl) (pe_op op_sub (pv 2) (pv 1)))
  (pss_cons (ps_if (pt_cmpR (op_eqP (hu64 hr)) (pv 4) pe_int (nomark _)) (pss_one (ps_ret (pe_ix (ix_U (hu1 hr)) (pv 0) (pv 1) (fun _ _ => rfl)))) pss_nil)
  (pss_cons (ps_set (i := 5) sc_l_one_item.nd rfl (by first | exact Or.inl rfl | exact Or.inr rfl) pe_non)
  (pss_cons (ps_for PassesOwn.never rfl (pi_range2 rfl B.b_range (pa_cons pe_int (pa_cons (pe_op op_addU (pe_op op_divU (pv 4) pe_int) pe_int) pa_nil))) (pg_name (i := 6) sc_l_one_item.nd rfl (by first | exact Or.inl rfl | exact Or.inr rfl))
    (pss_cons (ps_set (i := 7) sc_l_one_item.nd rfl (by first | exact Or.inl rfl | exact Or.inr rfl) (pe_op op_divU (pv 4) (pv 6)))
  (pss_one (ps_if (pt_cmpR (op_eqP (hu64 hr)) (pe_op op_mulU (pe_slice sl_U (pv 0) (po_some (pv 1)) (po_some (pe_op op_addU (pv 1) (pv 6)))) (pv 7)) (pe_slice sl_U (pv 0) (po_some (pv 1)) (po_some (pv 2))) (nomark _)) (pss_cons (ps_if (pt_cmpR (op_eqP (hu64 hr)) (pv 6) pe_int (nomark _)) (pss_one (ps_set (i := 5) sc_l_one_item.nd rfl (by first | exact Or.inl rfl | exact Or.inr rfl) (pe_can C_l_better hr (by decide) rfl (pa_cons (pv 5) (pa_cons (pe_op op_addU (pe_callTy call_str_int (by rfl) B.b_str boot_str (pa_cons (pv 7) pa_nil)) (pe_ix (ix_U (hu1 hr)) (pv 0) (pv 1) (fun _ _ => rfl))) pa_nil))))) pss_nil)
  (pss_one (ps_set (i := 5) sc_l_one_item.nd rfl (by first | exact Or.inl rfl | exact Or.inr rfl) (pe_can C_l_better hr (by decide) rfl (pa_cons (pv 5) (pa_cons (pe_op op_addU (pe_op op_addU (pe_op op_addU (pe_callTy call_str_int (by rfl) B.b_str boot_str (pa_cons (pv 7) pa_nil)) (pe_strL [40] (by decide +kernel))) (pe_ix (ix_U (hu1 hr)) (pv 3) (pe_tup (pa_cons (pv 1) (pa_cons (pe_op op_addU (pv 1) (pv 6)) pa_nil))) (fun _ _ => rfl))) (pe_strL [41] (by decide +kernel))) pa_nil)))))) pss_nil))))
  (pss_one (ps_ret (pv 5))))))), ?_⟩)
  · obtain ⟨_, _, _, _, rfl, _⟩ := h
    rfl
  · obtain ⟨v_row_here, v_low, v_high, v_filled, rfl, h⟩ := h
    show WS K ba _ [some v_row_here, some v_low, some v_high, some v_filled, none, none, none, none] τ _
    dsimp only [cxOf, Cx.nox, Cx.wish, Cx.tr, Cx.suite, Cx.blk]
    obtain ⟨l, x, y, n, kvs, rfl, rfl, rfl, rfl, lo, m, hx, hy, hn, ⟨m1, m2, l24⟩, hP, q⟩ := h
    have hr0 : (sub l lo m).length = m := sub_len m2
    walk_at "dw"
    refine w_ite (fun h => ?_) (fun h => ?_)
    · have hm : m = 1 := by omega
      subst hm
      walk_at "dw"
      refine d_ixS' (small (by omega)) (by omega) (get_gd (by omega)) ?_
      walk_at "dw"
      have e : sub l lo 1 = [l.getD lo 0] := sub_one (by omega)
      have s := single_one (l.getD lo 0)
      rw [← e] at s
      have s1 := sT_eq s
      rw [← s1] at q
      have q2 := q s (by rw [e]; exact .mk (by simp))
      rw [e] at q2
      rw [show x.toNat = lo by omega]
      exact out_same rfl q2
    have m2' : 2 ≤ m := by omega
    walk_at "dw"
    obtain ⟨r, hr⟩ : ∃ r, r = sub l lo m := ⟨_, rfl⟩
    rw [← hr] at hr0 q
    refine w_for (fun i ρ' τ' => ∃ (o : Option (List Nat)) (s6 s7 : Option D), ρ' = [some (.str l), some (.int x), some (.int y), some (.tk n), some (.int (y - x)), some (optS o), s6, s7] ∧ τ' = τ ∧ Sh 1000 o ∧ Least (SI r i) o) (w_iRng2 ?_)
    walk_at "dw"
    have e2 : ((y - x) / 2 + 1 - 1).toNat = m / 2 := by omega
    rw [e2]
    refine ⟨⟨none, none, none, rfl, rfl, (fun s e => by cases e), (fun t ⟨k, h1, h2, _⟩ => by omega)⟩, fun _ _ _ _ _ => trivial, fun i ρ' τ' hi hJ => ?_, fun ρ' τ' hJ => ?_⟩
    · obtain ⟨o, s6, s7, rfl, rfl, hS, hL⟩ := hJ
      walk_at "dw"
      have et : (y - x) / (1 + (i : Int)) = ((m / (1 + i) : Nat) : Int) := by
        rw [show y - x = ((m : Nat) : Int) by omega, show (1 : Int) + (i : Int) = ((1 + i : Nat) : Int) by omega, Int.natCast_ediv]
      obtain ⟨t, ht⟩ : ∃ t, t = m / (1 + i) := ⟨_, rfl⟩
      rw [← ht] at et
      have t24 : t ≤ 24 := by rw [ht]; exact Nat.le_trans (Nat.div_le_self _ _) (by omega)
      rw [et]
      walk_at "dw"
      have i12 : 1 + i ≤ 12 := by omega
      rw [sub_cut (lo := lo) (m := 1 + i) hx (by omega), ← sub_take (m := m) (by omega), ← hr]
      have lt : (r.take (1 + i)).length = 1 + i := by rw [List.length_take]; omega
      have hz := Nat.mul_le_mul i12 t24
      refine d_repS (by omega) (by omega) (small (by rw [lt, Int.toNat_natCast]; omega)) ?_
      rw [Int.toNat_natCast]
      walk_at "dw"
      rw [sub_cut hx hy, ← hr]
      walk_at "dw"
      have er : (List.replicate t (r.take (1 + i))).flatten = rep (r.length / (1 + i)) (r.take (1 + i)) := by rw [hr0, ← ht]; rfl
      rw [er]
      have hP1 := hP (1 + i) (by omega) (by omega)
      have em : sub l lo (1 + i) = r.take (1 + i) := by rw [hr, sub_take (by omega)]
      unfold HasP at hP1
      rw [em] at hP1
      have lm := hP1.2.le
      rw [lt] at lm
      have hd := digs_len t
      refine w_ite (fun he => ?_) (fun he => ?_)
      · walk_at "dw"
        refine w_ite (fun h1 => ?_) (fun h1 => ?_)
        · have i0 : i = 0 := by omega
          subst i0
          have lm' : (minT (r.take 1)).length ≤ 1 := by simpa using lm
          have t0 : t = m := by rw [ht]; simp
          walk_at "dw"
          refine d_str (by
            rw [Int.natAbs_natCast]
            exact Nat.lt_of_le_of_lt (Nat.log2_le_self _) (by omega)) ?_
          rw [str_nat (by omega)]
          walk_at "dw"
          refine d_ixS' (small (by omega)) (by omega) (get_gd (by omega)) ?_
          walk_at "dw"
          refine ⟨o, some (digs t ++ [l.getD x.toNat 0]), rfl, rfl, ⟨hS.mono (by decide), .mk (by rw [List.length_append, List.length_singleton]; omega)⟩, ?_⟩
          walk_at "dw"
          refine d_str (by
            rw [Int.natAbs_natCast]
            exact Nat.lt_of_le_of_lt (Nat.log2_le_self _) (by omega)) ?_
          rw [str_nat (by omega)]
          walk_at "dw"
          refine d_ixDt (rs_cell hn) (keys2 (k := 1 + 0) hx (by omega)) hP1.1 ?_
          walk_at "dw"
          refine ⟨better o (some (digs t ++ [l.getD x.toNat 0])), some (brk t (minT (r.take (1 + 0)))), rfl, ?_, ⟨(better_sh hS (.mk (by rw [List.length_append, List.length_singleton]; omega))).mono (by decide), .mk (by unfold brk; simp; omega)⟩, ?_⟩
          · unfold brk
            simp [optS]
          walk_at "dw"
          refine ⟨_, _, _, rfl, rfl, better_sh (better_sh hS (.mk (by rw [List.length_append, List.length_singleton]; omega))) (.mk (by unfold brk; simp; omega)), ?_⟩
          refine ((hL.or (.is _)).or (.is _)).congr fun t' => ?_
          rw [SI_one (by simpa using he), hr0, Nat.div_one, t0]
          have e1 : r.take 1 = [l.getD x.toNat 0] := by
            rw [hr, sub_take (by omega), sub_one (by omega), show x.toNat = lo by omega]
          rw [e1]
        · walk_at "dw"
          refine d_str (by
            rw [Int.natAbs_natCast]
            exact Nat.lt_of_le_of_lt (Nat.log2_le_self _) (by omega)) ?_
          rw [str_nat (by omega)]
          walk_at "dw"
          refine d_ixDt (rs_cell hn) (keys2 (k := 1 + i) hx (by omega)) hP1.1 ?_
          walk_at "dw"
          refine ⟨o, some (brk t (minT (r.take (1 + i)))), rfl, ?_, ⟨hS.mono (by decide), .mk (by unfold brk; simp; omega)⟩, ?_⟩
          · unfold brk
            simp [optS]
          walk_at "dw"
          refine ⟨_, _, _, rfl, rfl, better_sh hS (.mk (by unfold brk; simp; omega)), ?_⟩
          refine (hL.or (.is _)).congr fun t' => ?_
          rw [SI_yes (by omega) he, hr0, ← ht]
      · walk_at "dw"
        exact ⟨o, _, _, rfl, rfl, hS, hL.congr fun t' => SI_no he⟩
    · obtain ⟨o, s6, s7, rfl, rfl, hS, hL⟩ := hJ
      walk_at "dw"
      have is : IsS r o := single_min (F := fun k => minT (r.take k)) (by omega) (fun k k1 k2 => by
        have := (hP k k1 (by omega)).2
        rwa [← sub_take (m := m) (by omega), ← hr] at this) (by
        have := hL.congr (Q := SC (fun k => minT (r.take k)) r) fun t => by
          rw [SI_SC (by omega), hr0]
        cases o <;> exact this)
      have e := sT_eq is
      rw [← e] at q
      exact out_same nk_opt (q is hS)
end
end Fk

set_option Elab.async false
set_option linter.all false
set_option maxRecDepth 100000
set_option maxHeartbeats 4000000
namespace Fk
open PySem PySem.Spec PyProof.Rows L2 Fg Pu
local macro_rules | `(tactic| walk_at "rs") => `(tactic| first | exact rs_str | exact rs_int | exact rs_bl | exact rs_non | exact rs_nd | exact rs_cell rfl | exact rs_cell app_last | exact rs_cell (app_at (by assumption)) | exact rs_cell (by assumption) | exact rs_cell app_last2 | exact base_rs (by assumption) | exact pln_rs (by assumption) | assumption)
local macro_rules | `(tactic| walk_at "dw1") => `(tactic| first
  | with_reducible refine w_seq ?_
  | with_reducible refine w_asg ?_
  | with_reducible refine w_gname ?_
  | ((with_reducible refine' w_retC ?h1 ?h2 ?_); (case h1 => exact rfl); (case h2 => first | exact rfl | exact app_last | exact app_at (by assumption) | assumption | exact app_last2))
  | with_reducible refine w_ret ?_
  | with_reducible refine w_retK ?_
  | with_reducible refine w_minKey ?_
  | with_reducible refine d_leIS ?_
  | with_reducible refine d_eqI0 ?_
  | ((with_reducible refine' w_gtup ?h ?_); (case h => exact rfl))
  | with_reducible refine w_gcons ?_
  | with_reducible refine w_gnil ?_
  | ((with_reducible refine' gv_tup ?h ?_); (case h => exact rfl))
  | with_reducible refine gv_cons ?_
  | with_reducible refine gv_nil ?_
  | ((with_reducible refine' gv_name ?h ?_); (case h => decide))
  | with_reducible refine w_retN ?_
  | with_reducible refine w_next ?_
  | with_reducible refine w_break ?_
  | with_reducible refine w_cont ?_
  | with_reducible refine w_drop ?_
  | with_reducible refine w_ifS ?_
  | with_reducible refine w_if ?_
  | with_reducible refine w_par ?_
  | with_reducible refine w_pair ?_
  | ((with_reducible refine' w_rng1 ?h ?_); (case h => omega))
  | ((with_reducible refine' w_rng2 ?h ?_); (case h => omega))
  | with_reducible refine w_test ?_
  | with_reducible refine w_tB ?_
  | with_reducible refine w_not ?_
  | with_reducible refine w_and ?_
  | with_reducible refine w_or ?_
  | with_reducible refine w_andV ?_
  | with_reducible refine w_orV ?_
  | with_reducible refine w_notV ?_
  | with_reducible refine w_nil ?_
  | with_reducible refine w_cons ?_
  | with_reducible refine w_call0 ?_
  | ((with_reducible refine' w_callX ?hE ?_); (case hE => assumption))
  | ((with_reducible refine' w_callS ?hW ?_); (case hW => assumption))
  | ((with_reducible refine' w_raise ?hE ?_); (case hE => assumption))
  | ((with_reducible refine' w_one ?h1 ?_); (case h1 => first | exact rfl | assumption))
  | with_reducible refine sp1_at ?_
  | with_reducible refine sp2_at ?_
  | with_reducible refine sp3_at ?_
  | with_reducible refine sp4_at ?_
  | with_reducible refine sp5_at ?_
  | with_reducible refine sp6_at ?_
  | with_reducible refine w_draw ?_
  | with_reducible refine w_cb ?_
  | with_reducible refine w_then ?_
  | with_reducible refine w_sl ?_
  | with_reducible refine w_nopart ?_
  | with_reducible refine w_part ?_
  | with_reducible refine w_op ?_
  | with_reducible refine w_un ?_
  | with_reducible refine w_chain ?_
  | ((with_reducible refine' w_var ?hv ?_); (case hv => exact rfl))
  | with_reducible refine w_cI ?_
  | with_reducible refine w_cB ?_
  | with_reducible refine w_cN ?_
  | with_reducible refine w_cS ?_
  | with_reducible refine w_cs ?_
  | with_reducible refine w_cR ?_
  | with_reducible refine w_yes ?_
  | ((with_reducible refine' w_fz1 ?h1 ?h2 ?_); (case h1 => exact rfl); (case h2 => first | exact rfl | exact app_last | exact app_at (by assumption) | assumption | exact app_last2))
  | with_reducible refine w_fz0 ?_
  | with_reducible refine w_dnewK ?_
  | with_reducible refine w_dnewT ?_
  | with_reducible refine w_bl ?_
  | with_reducible refine w_in ?_
  | with_reducible refine w_tru1 ?_
  | with_reducible refine w_tup ?_
  | with_reducible refine w_lst ?_
  | with_reducible refine w_lstC' ?_
  | ((with_reducible refine' w_mk ?h1 ?h2 ?_); (case h1 => first | exact rfl | assumption); (case h2 => exact small (Nat.le_of_ble_eq_true rfl)))
  | with_reducible refine w_strE ?_
  | ((with_reducible refine' w_lstE ?h1 ?_); (case h1 => walk_at "rs"))
  | with_reducible refine t_bl ?_
  | with_reducible refine t_non ?_
  | with_reducible refine t_int ?_
  | ((with_reducible refine' t_str ?h ?_); (case h => first | assumption | omega))
  | ((with_reducible refine' t_lst ?h ?_); (case h => walk_at "rs"))
  | ((with_reducible refine' t_tup ?h ?_); (case h => walk_at "rs"))
  | with_reducible refine w_bmS ?_
  | with_reducible refine w_bmL ?_
  | with_reducible refine d_addI ?_
  | with_reducible refine d_I0 ?_
  | with_reducible refine d_I0b ?_
  | with_reducible refine d_cmpI ?_
  | ((with_reducible refine' d_catS ?h ?_); (case h => first | exact small (by omega) | exact small (by simp; omega)))
  | ((with_reducible refine d_I ?hc ?_); (case hc => first | assumption | (show (0 : Int) < _; decide) | exact Or.inr ⟨by decide, by decide⟩ | exact Or.inr ⟨by omega, by omega⟩ | exact Or.inl ⟨by decide, by decide⟩ | exact (show CDivW _ _ from ⟨by decide, by decide +kernel⟩) | exact (show CPowW _ _ from ⟨by decide, by decide +kernel⟩) | (show (0 : Int) < _; omega)))
  | ((with_reducible refine' d_mulI ?h ?_); (case h => first | exact Or.inr ⟨by decide, by decide⟩ | exact Or.inr ⟨by omega, by omega⟩ | exact Or.inl ⟨by decide, by decide⟩ | exact Or.inl ⟨by omega, by omega⟩))
  | ((with_reducible refine' d_div ?h ?_); (case h => first | assumption | exact ⟨by decide, by decide⟩ | exact ⟨by omega, by omega⟩))
  | with_reducible refine d_neg ?_
  | ((with_reducible refine' d_lenS ?h ?_); (case h => first | exact small (by omega) | exact small (by simp; omega)))
  | ((with_reducible refine' d_lenL ?h ?_); (case h => walk_at "rs"))
  | ((with_reducible refine' d_lenT ?ht ?h ?_); (case h => walk_at "rs"); (case ht => first | exact Or.inl rfl | exact Or.inr rfl))
  | ((with_reducible refine' d_lenK ?h ?_); (case h => walk_at "rs"))
  | ((with_reducible refine' d_eqS ?_))
  | ((with_reducible refine' d_neS ?_))
  | ((with_reducible refine' d_eqI ?_))
  | ((with_reducible refine' d_neI ?_))
  | ((with_reducible refine' d_eqB ?_))
  | ((with_reducible refine' d_neB ?_))
  | with_reducible refine d_inS ?_
  | with_reducible refine d_ninS ?_
  | ((with_reducible refine' d_slS ?h ?_); (case h => first | exact small (by omega) | exact small (by simp; omega)))
  | ((with_reducible refine' d_slL ?h ?_); (case h => walk_at "rs"))
  | ((with_reducible refine' d_ixL' ?h1 ?h2 ?h3 ?_); (case h1 => walk_at "rs"); (case h2 => first | decide | omega); (case h3 => first | exact rfl | assumption))
  | ((with_reducible refine' d_ixT' ?ht ?h1 ?h2 ?h3 ?_); (case h1 => walk_at "rs"); (case ht => first | exact Or.inl rfl | exact Or.inr rfl); (case h2 => first | decide | omega); (case h3 => first | exact rfl | assumption))
  | ((with_reducible refine' d_isi ?h1 ?h2 ?h3 ?_); (case h1 => walk_at "rs"); (case h2 => first | exact rfl | assumption); (case h3 => first | exact kb_int_int | exact kb_int_bool | exact kb_int_str | exact kb_int_list | exact kb_int_tuple | exact kb_bool_int | exact kb_bool_bool | exact kb_bool_str | exact kb_bool_list | exact kb_bool_tuple | exact kb_str_int | exact kb_str_bool | exact kb_str_str | exact kb_str_list | exact kb_str_tuple | exact kb_NoneType_int | exact kb_NoneType_bool | exact kb_NoneType_str | exact kb_NoneType_list | exact kb_NoneType_tuple | exact kb_list_int | exact kb_list_bool | exact kb_list_str | exact kb_list_list | exact kb_list_tuple | exact kb_tuple_int | exact kb_tuple_bool | exact kb_tuple_str | exact kb_tuple_list | exact kb_tuple_tuple))
  | ((with_reducible refine' d_isStr ?h1 ?h2 ?_); (case h1 => walk_at "rs"); (case h2 => first | exact rfl | assumption))
  | ((with_reducible refine' d_isInt ?h1 ?h2 ?_); (case h1 => walk_at "rs"); (case h2 => first | exact rfl | assumption))
  | ((with_reducible refine' d_isBool ?h1 ?h2 ?_); (case h1 => walk_at "rs"); (case h2 => first | exact rfl | assumption))
  | ((with_reducible refine' d_isLst ?h1 ?h2 ?_); (case h1 => walk_at "rs"); (case h2 => first | exact rfl | assumption))
  | ((with_reducible refine' d_isTup ?h1 ?h2 ?_); (case h1 => walk_at "rs"); (case h2 => first | exact rfl | assumption))
  | ((with_reducible refine' d_isN ?h ?_); (case h => first | exact nr_non | exact nr_int | exact nr_str | exact nr_tk | exact nr_nd | exact nr_bl | exact nr_base (by assumption) | assumption))
  | ((with_reducible refine' d_notN ?h ?_); (case h => first | exact nr_non | exact nr_int | exact nr_str | exact nr_tk | exact nr_nd | exact nr_bl | exact nr_base (by assumption) | assumption))
  | with_reducible refine d_int ?_
  | with_reducible refine d_abs ?_
  | ((with_reducible refine' d_tupL ?h ?_); (case h => walk_at "rs"))
  | with_reducible refine d_tupT ?_
  | ((with_reducible refine' d_listL ?h ?_); (case h => walk_at "rs"))
  | ((with_reducible refine' d_listT ?ht ?h ?_); (case h => walk_at "rs"); (case ht => first | exact Or.inl rfl | exact Or.inr rfl))
  | ((with_reducible refine' d_append ?h1 ?h2 ?h3 ?_); (case h1 => first | exact rfl | exact app_last | exact app_at (by assumption) | assumption | exact app_last2); (case h2 => first | exact rfl | assumption); (case h3 => first | omega | (simp; omega)))
  | rw [clo_tk] | rw [clo_none] | rw [clo_str] | rw [clo_int] | rw [clo_node] | rw [clo_bl] | rw [clo_non] | rw [clo_nil] | rw [clo_ne (ne_at (by assumption))] | rw [clo_ne (ne_at' (by assumption))]
  | with_reducible refine w_T ?_
  | with_reducible refine w_F ?_
  | with_reducible refine w_nT ?_
  | with_reducible refine w_nF ?_
  | ((with_reducible refine And.intro ?h ?_); (case h => first | assumption | exact rfl | omega | exact ⟨_, rfl, rfl⟩ | exact isDraw_app (by assumption) | exact app_at (by assumption))))
local macro_rules | `(tactic| walk_at "dw") => `(tactic| ((try dsimp only); repeat (walk_at "dw1")))
open Rt

section
variable {P : Program} {w : World} {K : PySem.W.Frag} {T : Tbs} {mg : Str → Option Value} {base : Heap}
section
variable {τ ex r : Tau} {a b c d : Cl} {i : Nat}
theorem at3 : (τ ++ ex)[τ.length + i]? = ex[i]? := by
  rw [List.getElem?_append_right (by omega)]
  congr 1
  omega
theorem set3_0 : (τ ++ (a :: r)).set τ.length c = τ ++ (c :: r) := by
  rw [List.set_append_right _ _ (Nat.le_refl _), Nat.sub_self]
  rfl
theorem set3_1 : (τ ++ (a :: b :: r)).set (τ.length + 1) c = τ ++ (a :: c :: r) := by
  rw [List.set_append_right _ _ (by omega), show τ.length + 1 - τ.length = 1 by omega]
  rfl
theorem set3_2 : (τ ++ (a :: b :: d :: r)).set (τ.length + 2) c = τ ++ (a :: b :: c :: r) := by
  rw [List.set_append_right _ _ (by omega), show τ.length + 2 - τ.length = 2 by omega]
  rfl
end
abbrev sp_table : SpD := sp1 fun a τ Q _ => ∃ l, a = .str l ∧ (1 ≤ l.length ∧ l.length ≤ 24) ∧ ∀ kvs, HasP kvs l 0 l.length → Q (.dit kvs) τ
/-- what the law chooses from for a window, by the cuts below 1 + c -/
def LI (r : List Nat) (c : Nat) (t : List Nat) : Prop := sT r = some t ∨ ∃ k s, 1 ≤ k ∧ k < 1 + c ∧ sT (r.drop k) = some s ∧ t = minT (r.take k) ++ s
theorem LI_LC {r t : List Nat} {i : Nat} (h : r.length = 1 + i) : LC (fun k => minT (r.take k)) (fun k => sT (r.drop k)) r t ↔ LI r i t := by
  constructor
  · intro h2
    cases h2 with
    | whole e => exact .inl (by rwa [List.drop_zero] at e)
    | cut h1 hk e => exact .inr ⟨_, _, h1, by omega, e, rfl⟩
  · rintro (e | ⟨k, s, h1, h2, e, rfl⟩)
    · exact .whole (by rwa [List.drop_zero])
    · exact .cut h1 (by omega) e
theorem LI_none {r t : List Nat} {c : Nat} (h : sT (r.drop (1 + c)) = none) : LI r (c + 1) t ↔ LI r c t := by
  constructor
  · rintro (e | ⟨k, s, h1, h2, e, h3⟩)
    · exact .inl e
    · by_cases hk : k = 1 + c
      · rw [hk, h] at e
        cases e
      · exact .inr ⟨k, s, h1, by omega, e, h3⟩
  · rintro (e | ⟨k, s, h1, h2, e, h3⟩)
    · exact .inl e
    · exact .inr ⟨k, s, h1, by omega, e, h3⟩
theorem LI_some {r t s : List Nat} {c : Nat} (h : sT (r.drop (1 + c)) = some s) : LI r (c + 1) t ↔ LI r c t ∨ t = minT (r.take (1 + c)) ++ s := by
  constructor
  · rintro (e | ⟨k, s', h1, h2, e, h3⟩)
    · exact .inl (.inl e)
    · by_cases hk : k = 1 + c
      · rw [hk, h] at e
        rw [← Option.some.inj e, hk] at h3
        exact .inr h3
      · exact .inl (.inr ⟨k, s', h1, by omega, e, h3⟩)
  · rintro ((e | ⟨k, s', h1, h2, e, h3⟩) | h3)
    · exact .inl e
    · exact .inr ⟨k, s', h1, by omega, e, h3⟩
    · exact .inr ⟨1 + c, s, by omega, by omega, h, h3⟩
theorem LI_zero {r : List Nat} : Least (LI r 0) (sT r) := by
  cases h : sT r with
  | none =>
    rintro t (e | ⟨k, s, h1, h2, _⟩)
    · rw [h] at e
      cases e
    · omega
  | some t =>
    refine ⟨.inl h, ?_⟩
    rintro t' (e | ⟨k, s, h1, h2, _⟩)
    · rw [h] at e
      rw [Option.some.inj e]
      exact .refl _
    · omega
theorem LI_min {r : List Nat} {i : Nat} {o : Option (List Nat)} (hr : r.length = 1 + i) (hI : ∀ k, 1 ≤ k → k < r.length → IsMin (r.take k) (minT (r.take k))) (hS : ∀ k, k < r.length → IsS (r.drop k) (sT (r.drop k))) (h : Least (LI r i) o) : o = some (minT r) ∧ IsMin r (minT r) := by
  have ex : ∃ t, LI r i t := by
    obtain ⟨c, hc⟩ := len_one (u := r.drop i) (by rw [List.length_drop]; omega)
    have e := sT_eq (single_one c)
    rw [← hc] at e
    cases i with
    | zero =>
      rw [List.drop_zero] at e
      exact ⟨_, .inl e.symm⟩
    | succ i => exact ⟨_, .inr ⟨i + 1, _, by omega, by omega, e.symm, rfl⟩⟩
  cases o with
  | none =>
    obtain ⟨t, ht⟩ := ex
    exact absurd ht (h t)
  | some t =>
    have im : IsMin r t := law_min hI hS (by omega) ((LI_LC hr).mpr h.1) fun t' ht' => h.2 t' ((LI_LC hr).mp ht')
    have e := minT_eq im
    exact ⟨by rw [← e], minT_is im⟩
theorem fill_win {l : List Nat} {j i c : Nat} (hl : j + (1 + i) ≤ l.length) (hc : c ≤ i) (h : ∀ p, c ≤ p → p ≤ i → l.getD (j + p) 0 = 46) : sub l j (1 + i) = sub l j c ++ List.replicate (1 + i - c) 46 := by
  have e : sub l j (1 + i) = (sub l j (1 + i)).take c ++ (sub l j (1 + i)).drop c := (List.take_append_drop _ _).symm
  rw [e, sub_take (by omega), sub_drop]
  congr 1
  rw [List.eq_replicate_iff]
  refine ⟨sub_len (by omega), fun b hb => ?_⟩
  obtain ⟨p, hp, e⟩ := List.getElem_of_mem hb
  have q : (sub l (j + c) (1 + i - c))[p]? = some b := by rw [List.getElem?_eq_getElem hp, e]
  rw [sub_len (by omega)] at hp
  unfold sub at q
  rw [List.getElem?_take, if_pos hp, List.getElem?_drop] at q
  have := h (c + p) (by omega) (by omega)
  rw [List.getD_eq_getElem?_getD, show j + (c + p) = j + c + p by omega, q] at this
  exact this

abbrev s_l_table : Stmt := topS 43
abbrev N_l_table : List Str := ["_law_row_here", "_law_single", "_law_items", "_law_filled", "_law_many", "_law_low", "_law_high", "_law_best", "_law_cut"]
theorem sc_l_table : FnScope ["_law_row_here", "_law_single", "_law_items", "_law_filled", "_law_many", "_law_low", "_law_high", "_law_best", "_law_cut"] ["_law_row_here"] (defScope s_l_table) := ⟨rfl, rfl, rfl, by decide +kernel, rfl, by decide +kernel, by decide +kernel⟩
theorem can_l_table (B : Bi mg) (F : Defd K mg "_law_table" s_l_table ["_law_row_here"]) (C_l_one_item : Can P w K mg base L2.CX0 2 "_law_one_item" ["_law_row_here", "_law_low", "_law_high", "_law_filled"] (mkSp K T sp_one_item)) (C_l_better : Can P w K mg base L2.CX0 1 "_law_better" ["_law_one", "_law_two"] (mkSp K T sp_better))  : Can P w K mg base L2.CX0 3 "_law_table" ["_law_row_here"] (mkSp K T sp_table) := by
  refine canD0 F sc_l_table (fun ds τ Q E h => ?_) (fun f cdv A outer s H E ba ds τ Qd Ed hr h => ⟨_, (pss_cons (ps_set (i := 1) sc_l_table.nd rfl (by first | exact Or.inl rfl | exact Or.inr rfl) pe_dnewT)
  (pss_cons (ps_set (i := 2) sc_l_table.nd rfl (by first | exact Or.inl rfl | exact Or.inr rfl) pe_dnewT)
  (pss_cons (ps_set (i := 3) sc_l_table.nd rfl (by first | exact Or.inl rfl | exact Or.inr rfl) pe_dnewT)
  (pss_cons (ps_for PassesOwn.never rfl (pi_range2 rfl B.b_range (pa_cons pe_int (pa_cons (pe_op op_addU (pe_callB call_lenU (by rfl) B.b_len boot_len (pa_cons (pv 0) pa_nil)) pe_int) pa_nil))) (pg_name (i := 4) sc_l_table.nd rfl (by first | exact Or.inl rfl | exact Or.inr rfl))
    (pss_one (ps_for PassesOwn.never rfl (pi_range1 rfl B.b_range (pa_cons (pe_op op_addU (pe_op op_sub (pe_callB call_lenU (by rfl) B.b_len boot_len (pa_cons (pv 0) pa_nil)) (pv 4)) pe_int) pa_nil)) (pg_name (i := 5) sc_l_table.nd rfl (by first | exact Or.inl rfl | exact Or.inr rfl))
    (pss_cons (ps_set (i := 6) sc_l_table.nd rfl (by first | exact Or.inl rfl | exact Or.inr rfl) (pe_op op_addU (pv 5) (pv 4)))
  (pss_cons (ps_dput (hu1 hr) (pv 1) (pe_tup (pa_cons (pv 5) (pa_cons (pv 6) pa_nil))) (pe_can C_l_one_item hr (by decide) rfl (pa_cons (pv 0) (pa_cons (pv 5) (pa_cons (pv 6) (pa_cons (pv 3) pa_nil))))) rfl)
  (pss_cons (ps_set (i := 7) sc_l_table.nd rfl (by first | exact Or.inl rfl | exact Or.inr rfl) (pe_ix (ix_U (hu1 hr)) (pv 1) (pe_tup (pa_cons (pv 5) (pa_cons (pv 6) pa_nil))) (fun _ _ => rfl)))
  (pss_cons (ps_for PassesOwn.never rfl (pi_range2 rfl B.b_range (pa_cons (pe_op op_addU (pv 5) pe_int) (pa_cons (pv 6) pa_nil))) (pg_name (i := 8) sc_l_table.nd rfl (by first | exact Or.inl rfl | exact Or.inr rfl))
    (pss_one (ps_if (pt_cmpR op_notN1 (pe_ix (ix_U (hu1 hr)) (pv 1) (pe_tup (pa_cons (pv 8) (pa_cons (pv 6) pa_nil))) (fun _ _ => rfl)) pe_non (nomark _)) (pss_one (ps_set (i := 7) sc_l_table.nd rfl (by first | exact Or.inl rfl | exact Or.inr rfl) (pe_can C_l_better hr (by decide) rfl (pa_cons (pv 7) (pa_cons (pe_op op_addU (pe_ix (ix_U (hu1 hr)) (pv 2) (pe_tup (pa_cons (pv 5) (pa_cons (pv 8) pa_nil))) (fun _ _ => rfl)) (pe_ix (ix_U (hu1 hr)) (pv 1) (pe_tup (pa_cons (pv 8) (pa_cons (pv 6) pa_nil))) (fun _ _ => rfl))) pa_nil))))) pss_nil)))
  (pss_cons (ps_dput (hu1 hr) (pv 2) (pe_tup (pa_cons (pv 5) (pa_cons (pv 6) pa_nil))) (pv 7) rfl)
  (pss_cons (ps_set (i := 8) sc_l_table.nd rfl (by first | exact Or.inl rfl | exact Or.inr rfl) (pe_op op_sub (pv 6) pe_int))
  (pss_cons (ps_while PassesOwn.never (PW.pt (pw_and (pt_cmpR (op_gtU (hu64 hr)) (pv 8) (pv 5) (nomark _)) (pw_and1 (pt_cmpR (op_eqP (hu64 hr)) (pe_ix (ix_U (hu1 hr)) (pv 0) (pv 8) (fun _ _ => rfl)) (pe_strL [46] (by decide +kernel)) (nomark _))))) (pss_cons (ps_set (i := 7) sc_l_table.nd rfl (by first | exact Or.inl rfl | exact Or.inr rfl) (pe_can C_l_better hr (by decide) rfl (pa_cons (pv 7) (pa_cons (pe_op op_addU (pe_op op_addU (pe_ix (ix_U (hu1 hr)) (pv 2) (pe_tup (pa_cons (pv 5) (pa_cons (pv 8) pa_nil))) (fun _ _ => rfl)) (pe_strL [64] (by decide +kernel))) (pe_callTy call_str_int (by rfl) B.b_str boot_str (pa_cons (pv 4) pa_nil))) pa_nil))))
  (pss_one (ps_set (i := 8) sc_l_table.nd rfl (by first | exact Or.inl rfl | exact Or.inr rfl) (pe_op op_sub (pv 8) pe_int)))))
  (pss_one (ps_dput (hu1 hr) (pv 3) (pe_tup (pa_cons (pv 5) (pa_cons (pv 6) pa_nil))) (pv 7) rfl))))))))))))
  (pss_one (ps_ret (pv 3))))))), ?_⟩)
  · obtain ⟨_, rfl, _⟩ := h
    rfl
  · obtain ⟨v_row_here, rfl, h⟩ := h
    show WS K ba _ [some v_row_here, none, none, none, none, none, none, none, none] τ _
    dsimp only [cxOf, Cx.nox, Cx.wish, Cx.tr, Cx.suite, Cx.blk]
    obtain ⟨l, rfl, ⟨l1, l24⟩, q⟩ := h
    walk_at "dw"
    refine w_for (fun i ρ' τ' => ∃ (sg it fl : List (List Key × D)) (o4 o5 o6 o7 o8 : Option D), ρ' = [some (.str l), some (.tk τ.length), some (.tk (τ.length + 1)), some (.tk (τ.length + 2)), o4, o5, o6, o7, o8] ∧ τ' = τ ++ [Cl.dit sg, Cl.dit it, Cl.dit fl] ∧ (sg.length ≤ 24 * i ∧ it.length ≤ 24 * i ∧ fl.length ≤ 24 * i) ∧ ∀ lo k, 1 ≤ k → k < 1 + i → lo + k ≤ l.length → HasS sg l lo k ∧ HasP it l lo k ∧ HasP fl l lo k) (w_iRng2 ?_)
    walk_at "dw"
    have e2 : ((l.length : Int) + 1 - 1).toNat = l.length := by omega
    rw [e2]
    refine ⟨⟨[], [], [], none, none, none, none, none, by simp, by simp, ⟨Nat.le_refl _, Nat.le_refl _, Nat.le_refl _⟩, fun lo k h1 h2 => by omega⟩, fun _ _ _ _ _ => trivial, fun i ρ' τ' hi hJ => ?_, fun ρ' τ' hJ => ?_⟩
    · obtain ⟨sg, it, fl, o4, o5, o6, o7, o8, rfl, rfl, hn, hT⟩ := hJ
      walk_at "dw"
      refine w_for (fun j ρ' τ' => ∃ (sg it fl : List (List Key × D)) (o5 o6 o7 o8 : Option D), ρ' = [some (.str l), some (.tk τ.length), some (.tk (τ.length + 1)), some (.tk (τ.length + 2)), some (.int (1 + (i : Int))), o5, o6, o7, o8] ∧ τ' = τ ++ [Cl.dit sg, Cl.dit it, Cl.dit fl] ∧ (sg.length ≤ 24 * i + j ∧ it.length ≤ 24 * i + j ∧ fl.length ≤ 24 * i + j) ∧ ∀ lo k, 1 ≤ k → lo + k ≤ l.length → (k < 1 + i ∨ k = 1 + i ∧ lo < j) → HasS sg l lo k ∧ HasP it l lo k ∧ HasP fl l lo k) (w_iRng1 ?_)
      walk_at "dw"
      have e3 : ((l.length : Int) - (1 + (i : Int)) + 1).toNat = l.length - i := by omega
      rw [e3]
      refine ⟨⟨sg, it, fl, o5, o6, o7, o8, rfl, rfl, by omega, fun lo k h1 h2 h3 => hT lo k h1 (by omega) h2⟩, fun _ _ _ _ _ => trivial, fun j ρ' τ' hj hJ => ?_, fun ρ' τ' hJ => ?_⟩
      · clear hT hn
        obtain ⟨sg, it, fl, o5, o6, o7, o8, rfl, rfl, hn, hT⟩ := hJ
        obtain ⟨n1, n2, n3⟩ := hn
        have jl : j + (1 + i) ≤ l.length := by omega
        obtain ⟨r, hr⟩ : ∃ r, r = sub l j (1 + i) := ⟨_, rfl⟩
        have lr : r.length = 1 + i := by rw [hr]; exact sub_len jl
        have hy : (j : Int) + (1 + (i : Int)) = (j : Int) + ((1 + i : Nat) : Int) := by omega
        walk_at "dw"
        refine w_dputT ?_
        walk_at "dw"
        refine ⟨l, _, _, _, fl, rfl, rfl, rfl, rfl, j, 1 + i, rfl, hy, at3.trans rfl, ⟨by omega, jl, l24⟩, fun k k1 k2 => (hT j k k1 (by omega) (.inl k2)).2.2, fun is sh => ?_⟩
        walk_at "dw"
        refine ⟨τ.length, sg, _, ky j (1 + i), rfl, rfl, (at3 (i := 0)).trans rfl, keys2 rfl hy, nk_opt, by omega, ?_⟩
        have hS' : ∀ lo k, 1 ≤ k → lo + k ≤ l.length → (k < 1 + i ∨ k = 1 + i ∧ lo < j + 1) → HasS (putD sg (ky j (1 + i)) (optS (sT (sub l j (1 + i))))) l lo k := fun lo k h1 h2 h3 => by
          by_cases e : k = 1 + i ∧ lo = j
          · obtain ⟨rfl, rfl⟩ := e
            exact .new is sh
          · exact (hT lo k h1 h2 (by omega)).1.put
        have n1' := putD_len (kvs := sg) (k := ky j (1 + i)) (v := optS (sT (sub l j (1 + i))))
        obtain ⟨sg', hsg⟩ : ∃ sg', sg' = putD sg (ky j (1 + i)) (optS (sT (sub l j (1 + i)))) := ⟨_, rfl⟩
        rw [← hsg] at hS' n1'
        rw [set3_0, ← hsg]
        walk_at "dw"
        refine d_ixDt (rs_cell ((at3 (i := 0)).trans rfl)) (keys2 rfl hy) (hS' j (1 + i) (by omega) jl (by omega)).1 ?_
        rw [← hr] at is sh ⊢
        walk_at "dw"
        refine w_for (fun c ρ' τ' => ∃ (o : Option (List Nat)) (o8 : Option D), ρ' = [some (.str l), some (.tk τ.length), some (.tk (τ.length + 1)), some (.tk (τ.length + 2)), some (.int (1 + (i : Int))), some (.int (j : Int)), some (.int ((j : Int) + (1 + (i : Int)))), some (optS o), o8] ∧ τ' = τ ++ [Cl.dit sg', Cl.dit it, Cl.dit fl] ∧ Sh 2000 o ∧ Least (LI r c) o) (w_iRng2 ?_)
        walk_at "dw"
        have e4 : ((j : Int) + (1 + (i : Int)) - ((j : Int) + 1)).toNat = i := by omega
        rw [e4]
        refine ⟨⟨sT r, o8, rfl, rfl, sh.mono (by decide), LI_zero⟩, fun _ _ _ _ _ => trivial, fun c ρ' τ' hc hJ => ?_, fun ρ' τ' hJ => ?_⟩
        · obtain ⟨o, o8, rfl, rfl, hO, hL⟩ := hJ
          have hw := hS' (j + (1 + c)) (1 + i - (1 + c)) (by omega) (by omega) (by omega)
          have ew : sub l (j + (1 + c)) (1 + i - (1 + c)) = r.drop (1 + c) := by rw [hr, sub_drop]
          unfold HasS at hw
          rw [ew] at hw
          have kw : ∀ x, x = (j : Int) + 1 + (c : Int) → keysOf [.int x, .int ((j : Int) + (1 + (i : Int)))] = some (ky (j + (1 + c)) (1 + i - (1 + c))) := fun x hx => keys2 (by omega) (by omega)
          walk_at "dw"
          refine d_ixDt (rs_cell ((at3 (i := 0)).trans rfl)) (kw _ rfl) hw.1 ?_
          cases hs : sT (r.drop (1 + c)) with
          | none =>
            dsimp only [optS]
            walk_at "dw"
            refine w_F' rfl ?_
            walk_at "dw"
            exact ⟨o, _, rfl, rfl, hO, hL.congr fun t => LI_none hs⟩
          | some s =>
            have hw1 := hw.1
            rw [hs] at hw1
            have ls := hw.2.2 s hs
            dsimp only [optS] at hw1 ⊢
            walk_at "dw"
            refine w_T' rfl ?_
            walk_at "dw"
            have hp := (hT j (1 + c) (by omega) (by omega) (by omega)).2.1
            have ep : sub l j (1 + c) = r.take (1 + c) := by rw [hr, sub_take (by omega)]
            unfold HasP at hp
            rw [ep] at hp
            have lp := hp.2.le
            rw [List.length_take] at lp
            refine d_ixDt (rs_cell (at3.trans rfl)) (keys2 (k := 1 + c) rfl (by omega)) hp.1 ?_
            walk_at "dw"
            refine d_ixDt (rs_cell ((at3 (i := 0)).trans rfl)) (kw _ rfl) hw1 ?_
            walk_at "dw"
            refine ⟨o, some (minT (r.take (1 + c)) ++ s), rfl, rfl, ⟨hO.mono (by decide), .mk (by rw [List.length_append]; omega)⟩, ?_⟩
            walk_at "dw"
            exact ⟨_, _, rfl, rfl, better_sh hO (.mk (by rw [List.length_append]; omega)), (hL.or (.is _)).congr fun t => LI_some hs⟩
        · obtain ⟨o, o8, rfl, rfl, hO, hL⟩ := hJ
          obtain ⟨rfl, im⟩ := LI_min lr (fun k k1 k2 => by
            have := (hT j k k1 (by omega) (by omega)).2.1.2
            rwa [← sub_take (m := 1 + i) (by omega), ← hr] at this) (fun k k2 => by
            by_cases k0 : k = 0
            · rw [k0, List.drop_zero]
              exact is
            · have := (hS' (j + k) (1 + i - k) (by omega) (by omega) (by omega)).2.1
              rwa [← sub_drop, ← hr] at this) hL
          have lm := im.le
          dsimp only [optS]
          walk_at "dw"
          refine w_dputT ?_
          walk_at "dw"
          refine ⟨τ.length + 1, it, _, ky j (1 + i), rfl, rfl, at3.trans rfl, keys2 rfl hy, rfl, by omega, ?_⟩
          have im' : IsMin (sub l j (1 + i)) (minT (sub l j (1 + i))) := by rw [← hr]; exact im
          have hI' : ∀ lo k, 1 ≤ k → lo + k ≤ l.length → (k < 1 + i ∨ k = 1 + i ∧ lo < j + 1) → HasP (putD it (ky j (1 + i)) (.str (minT r))) l lo k := fun lo k h1 h2 h3 => by
            rw [hr]
            by_cases e : k = 1 + i ∧ lo = j
            · obtain ⟨rfl, rfl⟩ := e
              exact .new im'
            · exact (hT lo k h1 h2 (by omega)).2.1.put
          have hF' : ∀ lo k, 1 ≤ k → lo + k ≤ l.length → (k < 1 + i ∨ k = 1 + i ∧ lo < j + 1) → HasP (putD fl (ky j (1 + i)) (.str (minT r))) l lo k := fun lo k h1 h2 h3 => by
            rw [hr]
            by_cases e : k = 1 + i ∧ lo = j
            · obtain ⟨rfl, rfl⟩ := e
              exact .new im'
            · exact (hT lo k h1 h2 (by omega)).2.2.put
          have n2' := putD_len (kvs := it) (k := ky j (1 + i)) (v := D.str (minT r))
          have n3' := putD_len (kvs := fl) (k := ky j (1 + i)) (v := D.str (minT r))
          obtain ⟨it', hit⟩ : ∃ it', it' = putD it (ky j (1 + i)) (D.str (minT r)) := ⟨_, rfl⟩
          rw [← hit] at hI' n2'
          rw [set3_1, ← hit]
          walk_at "dw"
          refine w_while (fun m ρ' τ' => ∃ (cc : Int) (c : Nat), ρ' = [some (.str l), some (.tk τ.length), some (.tk (τ.length + 1)), some (.tk (τ.length + 2)), some (.int (1 + (i : Int))), some (.int (j : Int)), some (.int ((j : Int) + (1 + (i : Int)))), some (.str (minT r)), some (.int cc)] ∧ τ' = τ ++ [Cl.dit sg', Cl.dit it', Cl.dit fl] ∧ cc = (j : Int) + (c : Int) ∧ c = m ∧ c ≤ i ∧ ∀ p, c < p → p ≤ i → l.getD (j + p) 0 = 46) ⟨i, _, i, rfl, rfl, by omega, rfl, Nat.le_refl _, fun p h1 h2 => by omega⟩ (fun m ρ' τ' hJ => ?_)
          obtain ⟨cc, c, rfl, rfl, hcc, rfl, ci, hp⟩ := hJ
          have fin : ∀ P' : En, P'.nx = (fun ρ' τ' => ∃ (sg it fl : List (List Key × D)) (o5 o6 o7 o8 : Option D), ρ' = [some (.str l), some (.tk τ.length), some (.tk (τ.length + 1)), some (.tk (τ.length + 2)), some (.int (1 + (i : Int))), o5, o6, o7, o8] ∧ τ' = τ ++ [Cl.dit sg, Cl.dit it, Cl.dit fl] ∧ (sg.length ≤ 24 * i + (j + 1) ∧ it.length ≤ 24 * i + (j + 1) ∧ fl.length ≤ 24 * i + (j + 1)) ∧ ∀ lo k, 1 ≤ k → lo + k ≤ l.length → (k < 1 + i ∨ k = 1 + i ∧ lo < j + 1) → HasS sg l lo k ∧ HasP it l lo k ∧ HasP fl l lo k) → WS K ba (sDPut (tVar 3) (tTup (tCons (tVar 5) (tCons (tVar 6) tNil))) (tVar 7)) [some (.str l), some (.tk τ.length), some (.tk (τ.length + 1)), some (.tk (τ.length + 2)), some (.int (1 + (i : Int))), some (.int (j : Int)), some (.int ((j : Int) + (1 + (i : Int)))), some (.str (minT r)), some (.int cc)] (τ ++ [Cl.dit sg', Cl.dit it', Cl.dit fl]) P' := fun P' hP' => by
            refine w_dputT ?_
            walk_at "dw"
            refine ⟨τ.length + 2, fl, _, ky j (1 + i), rfl, rfl, at3.trans rfl, keys2 rfl hy, rfl, by omega, ?_⟩
            rw [set3_2, hP']
            exact ⟨sg', it', _, _, _, _, _, rfl, rfl, ⟨by omega, by omega, by omega⟩, fun lo k h1 h2 h3 => ⟨hS' lo k h1 h2 h3, hI' lo k h1 h2 h3, hF' lo k h1 h2 h3⟩⟩
          walk_at "dw"
          refine w_ite (fun h1 => ?_) (fun h1 => ?_)
          · walk_at "dw"
            refine d_ixS' (small (by omega)) (by omega) (get_gd (by omega)) ?_
            walk_at "dw"
            refine w_ite (fun h2 => ?_) (fun h2 => ?_)
            · have h46 : l.getD (j + c) 0 = 46 := by
                have := List.singleton_inj.mp h2
                rwa [show cc.toNat = j + c by omega] at this
              have hpc := hI' j c (by omega) (by omega) (by omega)
              have lc := hpc.2.le
              rw [sub_len (by omega)] at lc
              walk_at "dw"
              refine d_ixDt (rs_cell (at3.trans rfl)) (keys2 (k := c) rfl hcc) hpc.1 ?_
              walk_at "dw"
              refine d_str (by
                rw [show (1 + (i : Int)).natAbs = 1 + i by omega]
                exact Nat.lt_of_le_of_lt (Nat.log2_le_self _) (by omega)) ?_
              rw [show (1 : Int) + (i : Int) = ((1 + i : Nat) : Int) by omega, str_nat (show 1 + i < 100 by omega)]
              have hd := digs_len (1 + i)
              walk_at "dw"
              refine ⟨some (minT r), some (minT (sub l j c) ++ [64] ++ digs (1 + i)), rfl, rfl, ⟨.mk (by omega), .mk (by rw [List.length_append, List.length_append, List.length_singleton]; omega)⟩, ?_⟩
              have hle : Le (minT r) (minT (sub l j c) ++ [64] ++ digs (1 + i)) := by
                have := fill_worse (a := sub l j c) (r := r) (k := 1 + i - c) (by
                  rw [hr]
                  exact fill_win jl (by omega) fun p p1 p2 => by
                    by_cases e : p = c
                    · rw [e]; exact h46
                    · exact hp p (by omega) p2) (by omega) (by omega) hpc.2 im
                rw [lr] at this
                simpa using this
              rw [better_some, if_pos hle]
              dsimp only [optS]
              walk_at "dw"
              refine ⟨c - 1, by omega, _, c - 1, rfl, rfl, by omega, rfl, by omega, fun p p1 p2 => ?_⟩
              by_cases e : p = c
              · rw [e]; exact h46
              · exact hp p (by omega) p2
            · walk_at "dw"
              exact fin _ rfl
          · walk_at "dw"
            exact fin _ rfl
      · obtain ⟨sg, it, fl, o5, o6, o7, o8, rfl, rfl, hn, hT⟩ := hJ
        exact ⟨sg, it, fl, _, _, _, _, _, rfl, rfl, by omega, fun lo k h1 h2 h3 => hT lo k h1 h3 (by omega)⟩
    · obtain ⟨sg, it, fl, o4, o5, o6, o7, o8, rfl, rfl, hn, hT⟩ := hJ
      refine w_retC rfl (at3.trans rfl) ?_
      rw [set3_2]
      exact out_more rfl (q fl (hT 0 l.length (by omega) (by omega) (by omega)).2.2)
end
end Fk

set_option Elab.async false
set_option linter.all false
set_option maxRecDepth 100000
set_option maxHeartbeats 4000000
namespace Fk
open PySem PySem.Spec PyProof.Rows L2 Fg Pu
local macro_rules | `(tactic| walk_at "rs") => `(tactic| first | exact rs_str | exact rs_int | exact rs_bl | exact rs_non | exact rs_nd | exact rs_cell rfl | exact rs_cell app_last | exact rs_cell (app_at (by assumption)) | exact rs_cell (by assumption) | exact rs_cell app_last2 | exact base_rs (by assumption) | exact pln_rs (by assumption) | assumption)
local macro_rules | `(tactic| walk_at "dw1") => `(tactic| first
  | with_reducible refine w_seq ?_
  | with_reducible refine w_asg ?_
  | with_reducible refine w_gname ?_
  | ((with_reducible refine' w_retC ?h1 ?h2 ?_); (case h1 => exact rfl); (case h2 => first | exact rfl | exact app_last | exact app_at (by assumption) | assumption | exact app_last2))
  | with_reducible refine w_ret ?_
  | with_reducible refine w_retK ?_
  | with_reducible refine w_minKey ?_
  | with_reducible refine d_leIS ?_
  | with_reducible refine d_eqI0 ?_
  | ((with_reducible refine' w_gtup ?h ?_); (case h => exact rfl))
  | with_reducible refine w_gcons ?_
  | with_reducible refine w_gnil ?_
  | ((with_reducible refine' gv_tup ?h ?_); (case h => exact rfl))
  | with_reducible refine gv_cons ?_
  | with_reducible refine gv_nil ?_
  | ((with_reducible refine' gv_name ?h ?_); (case h => decide))
  | with_reducible refine w_retN ?_
  | with_reducible refine w_next ?_
  | with_reducible refine w_break ?_
  | with_reducible refine w_cont ?_
  | with_reducible refine w_drop ?_
  | with_reducible refine w_ifS ?_
  | with_reducible refine w_if ?_
  | with_reducible refine w_par ?_
  | with_reducible refine w_pair ?_
  | ((with_reducible refine' w_rng1 ?h ?_); (case h => omega))
  | ((with_reducible refine' w_rng2 ?h ?_); (case h => omega))
  | with_reducible refine w_test ?_
  | with_reducible refine w_tB ?_
  | with_reducible refine w_not ?_
  | with_reducible refine w_and ?_
  | with_reducible refine w_or ?_
  | with_reducible refine w_andV ?_
  | with_reducible refine w_orV ?_
  | with_reducible refine w_notV ?_
  | with_reducible refine w_nil ?_
  | with_reducible refine w_cons ?_
  | with_reducible refine w_call0 ?_
  | ((with_reducible refine' w_callX ?hE ?_); (case hE => assumption))
  | ((with_reducible refine' w_callS ?hW ?_); (case hW => assumption))
  | ((with_reducible refine' w_raise ?hE ?_); (case hE => assumption))
  | ((with_reducible refine' w_one ?h1 ?_); (case h1 => first | exact rfl | assumption))
  | with_reducible refine sp1_at ?_
  | with_reducible refine sp2_at ?_
  | with_reducible refine sp3_at ?_
  | with_reducible refine sp4_at ?_
  | with_reducible refine sp5_at ?_
  | with_reducible refine sp6_at ?_
  | with_reducible refine w_draw ?_
  | with_reducible refine w_cb ?_
  | with_reducible refine w_then ?_
  | with_reducible refine w_sl ?_
  | with_reducible refine w_nopart ?_
  | with_reducible refine w_part ?_
  | with_reducible refine w_op ?_
  | with_reducible refine w_un ?_
  | with_reducible refine w_chain ?_
  | ((with_reducible refine' w_var ?hv ?_); (case hv => exact rfl))
  | with_reducible refine w_cI ?_
  | with_reducible refine w_cB ?_
  | with_reducible refine w_cN ?_
  | with_reducible refine w_cS ?_
  | with_reducible refine w_cs ?_
  | with_reducible refine w_cR ?_
  | with_reducible refine w_yes ?_
  | ((with_reducible refine' w_fz1 ?h1 ?h2 ?_); (case h1 => exact rfl); (case h2 => first | exact rfl | exact app_last | exact app_at (by assumption) | assumption | exact app_last2))
  | with_reducible refine w_fz0 ?_
  | with_reducible refine w_dnewK ?_
  | with_reducible refine w_dnewT ?_
  | with_reducible refine w_bl ?_
  | with_reducible refine w_in ?_
  | with_reducible refine w_tru1 ?_
  | with_reducible refine w_tup ?_
  | with_reducible refine w_lst ?_
  | with_reducible refine w_lstC' ?_
  | ((with_reducible refine' w_mk ?h1 ?h2 ?_); (case h1 => first | exact rfl | assumption); (case h2 => exact small (Nat.le_of_ble_eq_true rfl)))
  | with_reducible refine w_strE ?_
  | ((with_reducible refine' w_lstE ?h1 ?_); (case h1 => walk_at "rs"))
  | with_reducible refine t_bl ?_
  | with_reducible refine t_non ?_
  | with_reducible refine t_int ?_
  | ((with_reducible refine' t_str ?h ?_); (case h => first | assumption | omega))
  | ((with_reducible refine' t_lst ?h ?_); (case h => walk_at "rs"))
  | ((with_reducible refine' t_tup ?h ?_); (case h => walk_at "rs"))
  | with_reducible refine w_bmS ?_
  | with_reducible refine w_bmL ?_
  | with_reducible refine d_addI ?_
  | with_reducible refine d_I0 ?_
  | with_reducible refine d_I0b ?_
  | with_reducible refine d_cmpI ?_
  | ((with_reducible refine' d_catS ?h ?_); (case h => first | exact small (by omega) | exact small (by simp; omega)))
  | ((with_reducible refine d_I ?hc ?_); (case hc => first | assumption | (show (0 : Int) < _; decide) | exact Or.inr ⟨by decide, by decide⟩ | exact Or.inr ⟨by omega, by omega⟩ | exact Or.inl ⟨by decide, by decide⟩ | exact (show CDivW _ _ from ⟨by decide, by decide +kernel⟩) | exact (show CPowW _ _ from ⟨by decide, by decide +kernel⟩) | (show (0 : Int) < _; omega)))
  | ((with_reducible refine' d_mulI ?h ?_); (case h => first | exact Or.inr ⟨by decide, by decide⟩ | exact Or.inr ⟨by omega, by omega⟩ | exact Or.inl ⟨by decide, by decide⟩ | exact Or.inl ⟨by omega, by omega⟩))
  | ((with_reducible refine' d_div ?h ?_); (case h => first | assumption | exact ⟨by decide, by decide⟩ | exact ⟨by omega, by omega⟩))
  | with_reducible refine d_neg ?_
  | ((with_reducible refine' d_lenS ?h ?_); (case h => first | exact small (by omega) | exact small (by simp; omega)))
  | ((with_reducible refine' d_lenL ?h ?_); (case h => walk_at "rs"))
  | ((with_reducible refine' d_lenT ?ht ?h ?_); (case h => walk_at "rs"); (case ht => first | exact Or.inl rfl | exact Or.inr rfl))
  | ((with_reducible refine' d_lenK ?h ?_); (case h => walk_at "rs"))
  | ((with_reducible refine' d_eqS ?_))
  | ((with_reducible refine' d_neS ?_))
  | ((with_reducible refine' d_eqI ?_))
  | ((with_reducible refine' d_neI ?_))
  | ((with_reducible refine' d_eqB ?_))
  | ((with_reducible refine' d_neB ?_))
  | with_reducible refine d_inS ?_
  | with_reducible refine d_ninS ?_
  | ((with_reducible refine' d_slS ?h ?_); (case h => first | exact small (by omega) | exact small (by simp; omega)))
  | ((with_reducible refine' d_slL ?h ?_); (case h => walk_at "rs"))
  | ((with_reducible refine' d_ixL' ?h1 ?h2 ?h3 ?_); (case h1 => walk_at "rs"); (case h2 => first | decide | omega); (case h3 => first | exact rfl | assumption))
  | ((with_reducible refine' d_ixT' ?ht ?h1 ?h2 ?h3 ?_); (case h1 => walk_at "rs"); (case ht => first | exact Or.inl rfl | exact Or.inr rfl); (case h2 => first | decide | omega); (case h3 => first | exact rfl | assumption))
  | ((with_reducible refine' d_isi ?h1 ?h2 ?h3 ?_); (case h1 => walk_at "rs"); (case h2 => first | exact rfl | assumption); (case h3 => first | exact kb_int_int | exact kb_int_bool | exact kb_int_str | exact kb_int_list | exact kb_int_tuple | exact kb_bool_int | exact kb_bool_bool | exact kb_bool_str | exact kb_bool_list | exact kb_bool_tuple | exact kb_str_int | exact kb_str_bool | exact kb_str_str | exact kb_str_list | exact kb_str_tuple | exact kb_NoneType_int | exact kb_NoneType_bool | exact kb_NoneType_str | exact kb_NoneType_list | exact kb_NoneType_tuple | exact kb_list_int | exact kb_list_bool | exact kb_list_str | exact kb_list_list | exact kb_list_tuple | exact kb_tuple_int | exact kb_tuple_bool | exact kb_tuple_str | exact kb_tuple_list | exact kb_tuple_tuple))
  | ((with_reducible refine' d_isStr ?h1 ?h2 ?_); (case h1 => walk_at "rs"); (case h2 => first | exact rfl | assumption))
  | ((with_reducible refine' d_isInt ?h1 ?h2 ?_); (case h1 => walk_at "rs"); (case h2 => first | exact rfl | assumption))
  | ((with_reducible refine' d_isBool ?h1 ?h2 ?_); (case h1 => walk_at "rs"); (case h2 => first | exact rfl | assumption))
  | ((with_reducible refine' d_isLst ?h1 ?h2 ?_); (case h1 => walk_at "rs"); (case h2 => first | exact rfl | assumption))
  | ((with_reducible refine' d_isTup ?h1 ?h2 ?_); (case h1 => walk_at "rs"); (case h2 => first | exact rfl | assumption))
  | ((with_reducible refine' d_isN ?h ?_); (case h => first | exact nr_non | exact nr_int | exact nr_str | exact nr_tk | exact nr_nd | exact nr_bl | exact nr_base (by assumption) | assumption))
  | ((with_reducible refine' d_notN ?h ?_); (case h => first | exact nr_non | exact nr_int | exact nr_str | exact nr_tk | exact nr_nd | exact nr_bl | exact nr_base (by assumption) | assumption))
  | with_reducible refine d_int ?_
  | with_reducible refine d_abs ?_
  | ((with_reducible refine' d_tupL ?h ?_); (case h => walk_at "rs"))
  | with_reducible refine d_tupT ?_
  | ((with_reducible refine' d_listL ?h ?_); (case h => walk_at "rs"))
  | ((with_reducible refine' d_listT ?ht ?h ?_); (case h => walk_at "rs"); (case ht => first | exact Or.inl rfl | exact Or.inr rfl))
  | ((with_reducible refine' d_append ?h1 ?h2 ?h3 ?_); (case h1 => first | exact rfl | exact app_last | exact app_at (by assumption) | assumption | exact app_last2); (case h2 => first | exact rfl | assumption); (case h3 => first | omega | (simp; omega)))
  | rw [clo_tk] | rw [clo_none] | rw [clo_str] | rw [clo_int] | rw [clo_node] | rw [clo_bl] | rw [clo_non] | rw [clo_nil] | rw [clo_ne (ne_at (by assumption))] | rw [clo_ne (ne_at' (by assumption))]
  | with_reducible refine w_T ?_
  | with_reducible refine w_F ?_
  | with_reducible refine w_nT ?_
  | with_reducible refine w_nF ?_
  | ((with_reducible refine And.intro ?h ?_); (case h => first | assumption | exact rfl | omega | exact ⟨_, rfl, rfl⟩ | exact isDraw_app (by assumption) | exact app_at (by assumption))))
local macro_rules | `(tactic| walk_at "dw") => `(tactic| ((try dsimp only); repeat (walk_at "dw1")))
open Rt

section
variable {P : Program} {w : World} {K : PySem.W.Frag} {T : Tbs} {mg : Str → Option Value} {base : Heap}
abbrev sp_read_round : SpD := sp1 fun a τ Q _ => ∃ t r, a = .str t ∧ t.length ≤ 2000 ∧ rdAt 6 true t = .ok ([], r.length, r) ∧ r.length ≤ 24 ∧ Q (.str r) τ
theorem canD_read_round {A B : Addr} (C : Can P w K mg base (L2.CX P w) 25 "read_round" ["text"] (spReadRound K A B)) : Can P w K mg base (L2.CX P w) 25 "read_round" ["text"] (mkSp K T sp_read_round) := Can.imp C (fun vs H Q E ⟨ba, ds, τ, Z, θ, Qd, Ed, r, hv, ⟨a, hds, t, row, ha, lt, hrd, h24, q⟩, c, _⟩ => by
  subst ha hds
  cases hv with
  | cons h1 hv =>
    cases hv
    refine ⟨_, rfl, .inr ⟨t, h1.str, lt, ?_⟩⟩
    unfold OutRound
    rw [hrd]
    exact ⟨fun _ H' e => c _ H' Z θ (.str row) τ (r.extN (LamX.ExtN.of e) (r.tabs.ext e)) Ex.rfl' pre_rfl (.inr (.str _)) q, fun h => by
      have h : 24 < row.length := h
      omega⟩)
abbrev tolD : List Nat := [116, 111, 108, 100]
abbrev rounD : List Nat := [114, 111, 117, 110, 100]
abbrev sp_told : SpD := sp2 fun k a τ Q _ => (k = .int 0 ∧ fine a ∧ match badRound a with
    | none => ∀ l, a = .str l → IsMin l (minT l) → Q (.tup [.str tolD, .str (minT l)]) τ
    | some j => Q (.tup [.str rounD, .int j]) τ) ∨ (k = .int 1 ∧ ∃ t r, a = .str t ∧ t.length ≤ 2000 ∧ rdAt 6 true t = .ok ([], r.length, r) ∧ r.length ≤ 24 ∧ Q (.tup [.str tolD, .str r]) τ)

abbrev s_l_told : Stmt := topS 44
abbrev N_l_told : List Str := ["_law_kind", "_law_thing", "e"]
theorem sc_l_told : FnScope ["_law_kind", "_law_thing", "e"] ["_law_kind", "_law_thing"] (defScope s_l_told) := ⟨rfl, rfl, rfl, by decide +kernel, rfl, by decide +kernel, by decide +kernel⟩
theorem can_l_told (B : Bi mg) (F : Defd K mg "_law_told" s_l_told ["_law_kind", "_law_thing"]) {A_BadRound : Addr} (E_BadRound : Err P w K mg base "BadRound" A_BadRound "number") {A_BadText : Addr} (E_BadText : Err P w K mg base "BadText" A_BadText "at") {A_GlimError : Addr} (g_GlimError : mg "GlimError" = some (.ref A_GlimError)) (C_fold_round : Can P w K mg base (L2.CX P w) 4 "fold_round" ["row"] (mkSp K T (sp_fold_round A_BadRound))) (C_read_round : Can P w K mg base (L2.CX P w) 25 "read_round" ["text"] (mkSp K T sp_read_round)) (xm : PySem.W.exmOne K (.ref A_BadRound) (.ref A_GlimError) = some true) (k1 : PySem.W.kitOne K (.ref A_BadRound) (.ref A_BadRound) = some true) (k2 : PySem.W.kitOne K (.ref A_BadRound) (.ref A_BadText) = some false) (k3 : PySem.W.kitOne K (.ref A_BadRound) (.type "ValueError") = some true) : Can P w K mg base L2.CX0 26 "_law_told" ["_law_kind", "_law_thing"] (mkSp K T sp_told) := by
  refine canD0 F sc_l_told (fun ds τ Q E h => ?_) (fun f cdv A outer s H E ba ds τ Qd Ed hr h => ⟨_, (pss_cons (ps_tryW (i := 2) (Wout := fun _ _ _ _ => False) rfl rfl sc_l_told.nd rfl rfl ⟨rfl, by decide, Or.inl g_GlimError⟩ takes0
    (fun W pn xe tk _ => (pss_cons (ps_if (pt_cmpR op_eq (pv 0) pe_int (nomark _)) (pss_one (ps_ret (pe_tup (pa_cons (pe_strL [116, 111, 108, 100] (by decide +kernel)) (pa_cons (pe_canS C_fold_round hr (by decide) rfl (fun σ => passAt tk σ) (pa_cons (pv 1) pa_nil)) pa_nil))))) pss_nil)
  (pss_one (ps_ret (pe_tup (pa_cons (pe_strL [116, 111, 108, 100] (by decide +kernel)) (pa_cons (pe_canS C_read_round hr (by decide) rfl (fun σ => passAt tk σ) (pa_cons (pv 1) pa_nil)) pa_nil)))))))
    (fun a oe cls d pn hz hf => (pss_one (ps_if (PW.pt (pw_and (pt_val (pe_callB (call_isX hz hf) (by rfl) B.b_isinstance boot_isinstance (pa_cons (pv 2) (pa_cons (pe_glob (v := .ref A_BadRound) (by rfl) E_BadRound.g rfl) pa_nil)))) (pw_and (pt_not (pt_val (pe_callB (call_isX hz hf) (by rfl) B.b_isinstance boot_isinstance (pa_cons (pv 2) (pa_cons (pe_glob (v := .ref A_BadText) (by rfl) E_BadText.g rfl) pa_nil))))) (pw_and1 (pt_val (pe_callB (call_isX hz hf) (by rfl) B.b_isinstance boot_isinstance (pa_cons (pv 2) (pa_cons (pe_bltn (v := .ty "ValueError") (by rfl) B.b_ValueError (by decide +kernel) rfl) pa_nil)))))))) (pss_one (ps_ret (pe_tup (pa_cons (pe_strL [114, 111, 117, 110, 100] (by decide +kernel)) (pa_cons (pe_xf E_BadRound.xf E_BadRound.noN hz hf (pv 2)) pa_nil))))) pss_nil))))
  (pss_one (ps_ret (pe_tup (pa_cons (pe_strL [110, 111, 110, 101] (by decide +kernel)) (pa_cons pe_non pa_nil)))))), ?_⟩)
  · obtain ⟨_, _, rfl, _⟩ := h
    rfl
  · obtain ⟨v_kind, v_thing, rfl, h⟩ := h
    show WS K ba _ [some v_kind, some v_thing, none] τ _
    dsimp only [cxOf, Cx.nox, Cx.wish, Cx.tr, Cx.suite, Cx.blk]
    rcases h with ⟨rfl, hf, h⟩ | ⟨rfl, t, r, rfl, lt, hrd, h24, q⟩
    · refine w_seq ?_
      refine w_tryW fun bt W le hW => ?_
      walk_at "dw"
      refine w_T' rfl ?_
      walk_at "dw"
      cases hb : badRound v_thing with
      | none =>
        rw [hb] at h
        refine fun l hl im => ?_
        walk_at "dw"
        exact out_same rfl (h l hl im)
      | some j =>
        rw [hb] at h
        refine ⟨xm, fun bh a d le2 hc => ?_⟩
        walk_at "dw"
        refine d_isX hc E_BadRound.xc refV k1 ?_
        walk_at "dw"
        refine d_isX hc E_BadRound.xc refV k2 ?_
        walk_at "dw"
        refine d_isX hc E_BadRound.xc tyV' k3 ?_
        walk_at "dw"
        refine w_xf hc rfl ?_
        walk_at "dw"
        exact out_same rfl h
    · refine w_seq ?_
      refine w_tryW fun bt W le hW => ?_
      walk_at "dw"
      refine w_F' rfl ?_
      walk_at "dw"
      refine ⟨t, r, rfl, lt, hrd, h24, ?_⟩
      walk_at "dw"
      exact out_same rfl q
end
end Fk

set_option Elab.async false
set_option linter.all false
set_option maxRecDepth 100000
set_option maxHeartbeats 4000000
namespace Fk
open PySem PySem.Spec PyProof.Rows L2 Fg Pu
local macro_rules | `(tactic| walk_at "rs") => `(tactic| first | exact rs_str | exact rs_int | exact rs_bl | exact rs_non | exact rs_nd | exact rs_cell rfl | exact rs_cell app_last | exact rs_cell (app_at (by assumption)) | exact rs_cell (by assumption) | exact rs_cell app_last2 | exact base_rs (by assumption) | exact pln_rs (by assumption) | assumption)
local macro_rules | `(tactic| walk_at "dw1") => `(tactic| first
  | with_reducible refine w_seq ?_
  | with_reducible refine w_asg ?_
  | with_reducible refine w_gname ?_
  | ((with_reducible refine' w_retC ?h1 ?h2 ?_); (case h1 => exact rfl); (case h2 => first | exact rfl | exact app_last | exact app_at (by assumption) | assumption | exact app_last2))
  | with_reducible refine w_ret ?_
  | with_reducible refine w_retK ?_
  | with_reducible refine w_minKey ?_
  | with_reducible refine d_leIS ?_
  | with_reducible refine d_eqI0 ?_
  | ((with_reducible refine' w_gtup ?h ?_); (case h => exact rfl))
  | with_reducible refine w_gcons ?_
  | with_reducible refine w_gnil ?_
  | ((with_reducible refine' gv_tup ?h ?_); (case h => exact rfl))
  | with_reducible refine gv_cons ?_
  | with_reducible refine gv_nil ?_
  | ((with_reducible refine' gv_name ?h ?_); (case h => decide))
  | with_reducible refine w_retN ?_
  | with_reducible refine w_next ?_
  | with_reducible refine w_break ?_
  | with_reducible refine w_cont ?_
  | with_reducible refine w_drop ?_
  | with_reducible refine w_ifS ?_
  | with_reducible refine w_if ?_
  | with_reducible refine w_par ?_
  | with_reducible refine w_pair ?_
  | ((with_reducible refine' w_rng1 ?h ?_); (case h => omega))
  | ((with_reducible refine' w_rng2 ?h ?_); (case h => omega))
  | with_reducible refine w_test ?_
  | with_reducible refine w_tB ?_
  | with_reducible refine w_not ?_
  | with_reducible refine w_and ?_
  | with_reducible refine w_or ?_
  | with_reducible refine w_andV ?_
  | with_reducible refine w_orV ?_
  | with_reducible refine w_notV ?_
  | with_reducible refine w_nil ?_
  | with_reducible refine w_cons ?_
  | with_reducible refine w_call0 ?_
  | ((with_reducible refine' w_callX ?hE ?_); (case hE => assumption))
  | ((with_reducible refine' w_callS ?hW ?_); (case hW => assumption))
  | ((with_reducible refine' w_raise ?hE ?_); (case hE => assumption))
  | ((with_reducible refine' w_one ?h1 ?_); (case h1 => first | exact rfl | assumption))
  | with_reducible refine sp1_at ?_
  | with_reducible refine sp2_at ?_
  | with_reducible refine sp3_at ?_
  | with_reducible refine sp4_at ?_
  | with_reducible refine sp5_at ?_
  | with_reducible refine sp6_at ?_
  | with_reducible refine w_draw ?_
  | with_reducible refine w_cb ?_
  | with_reducible refine w_then ?_
  | with_reducible refine w_sl ?_
  | with_reducible refine w_nopart ?_
  | with_reducible refine w_part ?_
  | with_reducible refine w_op ?_
  | with_reducible refine w_un ?_
  | with_reducible refine w_chain ?_
  | ((with_reducible refine' w_var ?hv ?_); (case hv => exact rfl))
  | with_reducible refine w_cI ?_
  | with_reducible refine w_cB ?_
  | with_reducible refine w_cN ?_
  | with_reducible refine w_cS ?_
  | with_reducible refine w_cs ?_
  | with_reducible refine w_cR ?_
  | with_reducible refine w_yes ?_
  | ((with_reducible refine' w_fz1 ?h1 ?h2 ?_); (case h1 => exact rfl); (case h2 => first | exact rfl | exact app_last | exact app_at (by assumption) | assumption | exact app_last2))
  | with_reducible refine w_fz0 ?_
  | with_reducible refine w_dnewK ?_
  | with_reducible refine w_dnewT ?_
  | with_reducible refine w_bl ?_
  | with_reducible refine w_in ?_
  | with_reducible refine w_tru1 ?_
  | with_reducible refine w_tup ?_
  | with_reducible refine w_lst ?_
  | with_reducible refine w_lstC' ?_
  | ((with_reducible refine' w_mk ?h1 ?h2 ?_); (case h1 => first | exact rfl | assumption); (case h2 => exact small (Nat.le_of_ble_eq_true rfl)))
  | with_reducible refine w_strE ?_
  | ((with_reducible refine' w_lstE ?h1 ?_); (case h1 => walk_at "rs"))
  | with_reducible refine t_bl ?_
  | with_reducible refine t_non ?_
  | with_reducible refine t_int ?_
  | ((with_reducible refine' t_str ?h ?_); (case h => first | assumption | omega))
  | ((with_reducible refine' t_lst ?h ?_); (case h => walk_at "rs"))
  | ((with_reducible refine' t_tup ?h ?_); (case h => walk_at "rs"))
  | with_reducible refine w_bmS ?_
  | with_reducible refine w_bmL ?_
  | with_reducible refine d_addI ?_
  | with_reducible refine d_I0 ?_
  | with_reducible refine d_I0b ?_
  | with_reducible refine d_cmpI ?_
  | ((with_reducible refine' d_catS ?h ?_); (case h => first | exact small (by omega) | exact small (by simp; omega)))
  | ((with_reducible refine d_I ?hc ?_); (case hc => first | assumption | (show (0 : Int) < _; decide) | exact Or.inr ⟨by decide, by decide⟩ | exact Or.inr ⟨by omega, by omega⟩ | exact Or.inl ⟨by decide, by decide⟩ | exact (show CDivW _ _ from ⟨by decide, by decide +kernel⟩) | exact (show CPowW _ _ from ⟨by decide, by decide +kernel⟩) | (show (0 : Int) < _; omega)))
  | ((with_reducible refine' d_mulI ?h ?_); (case h => first | exact Or.inr ⟨by decide, by decide⟩ | exact Or.inr ⟨by omega, by omega⟩ | exact Or.inl ⟨by decide, by decide⟩ | exact Or.inl ⟨by omega, by omega⟩))
  | ((with_reducible refine' d_div ?h ?_); (case h => first | assumption | exact ⟨by decide, by decide⟩ | exact ⟨by omega, by omega⟩))
  | with_reducible refine d_neg ?_
  | ((with_reducible refine' d_lenS ?h ?_); (case h => first | exact small (by omega) | exact small (by simp; omega)))
  | ((with_reducible refine' d_lenL ?h ?_); (case h => walk_at "rs"))
  | ((with_reducible refine' d_lenT ?ht ?h ?_); (case h => walk_at "rs"); (case ht => first | exact Or.inl rfl | exact Or.inr rfl))
  | ((with_reducible refine' d_lenK ?h ?_); (case h => walk_at "rs"))
  | ((with_reducible refine' d_eqS ?_))
  | ((with_reducible refine' d_neS ?_))
  | ((with_reducible refine' d_eqI ?_))
  | ((with_reducible refine' d_neI ?_))
  | ((with_reducible refine' d_eqB ?_))
  | ((with_reducible refine' d_neB ?_))
  | with_reducible refine d_inS ?_
  | with_reducible refine d_ninS ?_
  | ((with_reducible refine' d_slS ?h ?_); (case h => first | exact small (by omega) | exact small (by simp; omega)))
  | ((with_reducible refine' d_slL ?h ?_); (case h => walk_at "rs"))
  | ((with_reducible refine' d_ixL' ?h1 ?h2 ?h3 ?_); (case h1 => walk_at "rs"); (case h2 => first | decide | omega); (case h3 => first | exact rfl | assumption))
  | ((with_reducible refine' d_ixT' ?ht ?h1 ?h2 ?h3 ?_); (case h1 => walk_at "rs"); (case ht => first | exact Or.inl rfl | exact Or.inr rfl); (case h2 => first | decide | omega); (case h3 => first | exact rfl | assumption))
  | ((with_reducible refine' d_isi ?h1 ?h2 ?h3 ?_); (case h1 => walk_at "rs"); (case h2 => first | exact rfl | assumption); (case h3 => first | exact kb_int_int | exact kb_int_bool | exact kb_int_str | exact kb_int_list | exact kb_int_tuple | exact kb_bool_int | exact kb_bool_bool | exact kb_bool_str | exact kb_bool_list | exact kb_bool_tuple | exact kb_str_int | exact kb_str_bool | exact kb_str_str | exact kb_str_list | exact kb_str_tuple | exact kb_NoneType_int | exact kb_NoneType_bool | exact kb_NoneType_str | exact kb_NoneType_list | exact kb_NoneType_tuple | exact kb_list_int | exact kb_list_bool | exact kb_list_str | exact kb_list_list | exact kb_list_tuple | exact kb_tuple_int | exact kb_tuple_bool | exact kb_tuple_str | exact kb_tuple_list | exact kb_tuple_tuple))
  | ((with_reducible refine' d_isStr ?h1 ?h2 ?_); (case h1 => walk_at "rs"); (case h2 => first | exact rfl | assumption))
  | ((with_reducible refine' d_isInt ?h1 ?h2 ?_); (case h1 => walk_at "rs"); (case h2 => first | exact rfl | assumption))
  | ((with_reducible refine' d_isBool ?h1 ?h2 ?_); (case h1 => walk_at "rs"); (case h2 => first | exact rfl | assumption))
  | ((with_reducible refine' d_isLst ?h1 ?h2 ?_); (case h1 => walk_at "rs"); (case h2 => first | exact rfl | assumption))
  | ((with_reducible refine' d_isTup ?h1 ?h2 ?_); (case h1 => walk_at "rs"); (case h2 => first | exact rfl | assumption))
  | ((with_reducible refine' d_isN ?h ?_); (case h => first | exact nr_non | exact nr_int | exact nr_str | exact nr_tk | exact nr_nd | exact nr_bl | exact nr_base (by assumption) | assumption))
  | ((with_reducible refine' d_notN ?h ?_); (case h => first | exact nr_non | exact nr_int | exact nr_str | exact nr_tk | exact nr_nd | exact nr_bl | exact nr_base (by assumption) | assumption))
  | with_reducible refine d_int ?_
  | with_reducible refine d_abs ?_
  | ((with_reducible refine' d_tupL ?h ?_); (case h => walk_at "rs"))
  | with_reducible refine d_tupT ?_
  | ((with_reducible refine' d_listL ?h ?_); (case h => walk_at "rs"))
  | ((with_reducible refine' d_listT ?ht ?h ?_); (case h => walk_at "rs"); (case ht => first | exact Or.inl rfl | exact Or.inr rfl))
  | ((with_reducible refine' d_append ?h1 ?h2 ?h3 ?_); (case h1 => first | exact rfl | exact app_last | exact app_at (by assumption) | assumption | exact app_last2); (case h2 => first | exact rfl | assumption); (case h3 => first | omega | (simp; omega)))
  | rw [clo_tk] | rw [clo_none] | rw [clo_str] | rw [clo_int] | rw [clo_node] | rw [clo_bl] | rw [clo_non] | rw [clo_nil] | rw [clo_ne (ne_at (by assumption))] | rw [clo_ne (ne_at' (by assumption))]
  | with_reducible refine w_T ?_
  | with_reducible refine w_F ?_
  | with_reducible refine w_nT ?_
  | with_reducible refine w_nF ?_
  | ((with_reducible refine And.intro ?h ?_); (case h => first | assumption | exact rfl | omega | exact ⟨_, rfl, rfl⟩ | exact isDraw_app (by assumption) | exact app_at (by assumption))))
local macro_rules | `(tactic| walk_at "dw") => `(tactic| ((try dsimp only); repeat (walk_at "dw1")))
open Rt

section
variable {P : Program} {w : World} {K : PySem.W.Frag} {T : Tbs} {mg : Str → Option Value} {base : Heap}
abbrev sp_bad_round : SpD := sp2 fun a b τ Q _ => ∃ l, b = .str l ∧ AllSg l ∧ (1 ≤ l.length ∧ l.length ≤ 24) ∧ IsDraw τ a ∧ ∀ x j, fine x → badRound x = some j → Q (.tup [x, .int j]) τ
theorem fine_str {l : List Nat} (h : l.length ≤ 1000000) : fine (.str l) := ⟨rfl, fun m e => by
  injection e with e
  rw [← e]
  exact h⟩
theorem base_notk {x : D} (h : x.base = true) : notk [x] = true := by
  cases x <;> first | rfl | cases h
theorem base_notk2 {x y : D} (h : x.base = true) (h2 : y.base = true) : notk [x, y] = true := by
  have e1 := base_notk h
  have e2 := base_notk h2
  cases x <;> cases y <;> first | rfl | exact e1 | exact e2
theorem bad8 : ∀ i : Fin 8, isSg (([120, 87, 71, 48, 45, 44, 32, 50] : List Nat).getD i.val 0) = false := by decide +kernel
theorem bad_at {l r : List Nat} {c : Nat} (hs : AllSg l) (hc : isSg c = false) (h24 : (l ++ [c] ++ r).length ≤ 24) : badRound (.str (l ++ [c] ++ r)) = some ((l.length : Nat) : Int) := by
  have hl : l.length < (l ++ [c] ++ r).length := by simp
  have e : wrongAt (l ++ [c] ++ r) = some l.length := by
    refine wrongAt_at hl (fun j hj => ?_) ?_
    · rw [List.append_assoc, gd_l hj, gd_e hj]
      exact hs _ (List.getElem_mem hj)
    · rw [List.append_assoc, gd_r (Nat.le_refl _), Nat.sub_self]
      exact hc
  show (if 1 ≤ (l ++ [c] ++ r).length ∧ (l ++ [c] ++ r).length ≤ 24 then (wrongAt (l ++ [c] ++ r)).map Int.ofNat else some (-1)) = _
  rw [if_pos ⟨by omega, h24⟩, e]
  rfl
theorem badRound_len {l : List Nat} (h : ¬ (1 ≤ l.length ∧ l.length ≤ 24)) : badRound (.str l) = some (-1) := if_neg h
theorem badRound_ok {l : List Nat} (hs : AllSg l) (h1 : 1 ≤ l.length) (h2 : l.length ≤ 24) : badRound (.str l) = none := by
  show (if 1 ≤ l.length ∧ l.length ≤ 24 then (wrongAt l).map Int.ofNat else some (-1)) = _
  rw [if_pos ⟨h1, h2⟩, wrongAt_no fun j hj => by rw [gd_e hj]; exact hs _ (List.getElem_mem hj)]
  rfl

abbrev s_l_bad_round : Stmt := topS 45
abbrev N_l_bad_round : List Str := ["_law_draw_here", "_law_row_here", "_law_place", "_law_later", "_law_bad", "_law_menu"]
theorem sc_l_bad_round : FnScope ["_law_draw_here", "_law_row_here", "_law_place", "_law_later", "_law_bad", "_law_menu"] ["_law_draw_here", "_law_row_here"] (defScope s_l_bad_round) := ⟨rfl, rfl, rfl, by decide +kernel, rfl, by decide +kernel, by decide +kernel⟩
theorem can_l_bad_round (B : Bi mg) (F : Defd K mg "_law_bad_round" s_l_bad_round ["_law_draw_here", "_law_row_here"]) (C_l_pick : Can P w K mg base L2.CX0 2 "_law_pick" ["_law_draw_here", "_law_many"] (mkSp K T spPickD))  : Can P w K mg base L2.CX0 3 "_law_bad_round" ["_law_draw_here", "_law_row_here"] (mkSp K T sp_bad_round) := by
  refine canD0 F sc_l_bad_round (fun ds τ Q E h => ?_) (fun f cdv A outer s H E ba ds τ Qd Ed hr h => ⟨_, (pss_cons (ps_if (pt_cmpR (op_eqP (hu64 hr)) (pe_can C_l_pick hr (by decide) rfl (pa_cons (pv 0) (pa_cons pe_int pa_nil))) pe_int (nomark _)) (pss_cons (ps_set (i := 5) sc_l_bad_round.nd rfl (by first | exact Or.inl rfl | exact Or.inr rfl) (pe_lst (pa_cons (pe_strL [] (by decide +kernel)) (pa_cons (pe_slice sl_U (pe_op op_mulU (pv 1) pe_int) po_none (po_some pe_int)) (pa_cons (pe_op op_mulU (pe_strL [120] (by decide +kernel)) pe_int) (pa_cons pe_non (pa_cons pe_int (pa_cons pe_bl (pa_cons (pe_tup (pa_cons (pe_strL [119] (by decide +kernel)) pa_nil)) (pa_cons (pe_lst (pa_cons (pe_strL [119] (by decide +kernel)) pa_nil)) pa_nil))))))))))
  (pss_one (ps_ret (pe_tup (pa_cons (pe_ix (ix_U (hu1 hr)) (pv 5) (pe_can C_l_pick hr (by decide) rfl (pa_cons (pv 0) (pa_cons pe_int pa_nil))) (fun _ _ => rfl)) (pa_cons (pe_un un_neg pe_int) pa_nil)))))) pss_nil)
  (pss_cons (ps_set (i := 2) sc_l_bad_round.nd rfl (by first | exact Or.inl rfl | exact Or.inr rfl) (pe_can C_l_pick hr (by decide) rfl (pa_cons (pv 0) (pa_cons (pe_callB call_lenU (by rfl) B.b_len boot_len (pa_cons (pv 1) pa_nil)) pa_nil))))
  (pss_cons (ps_set (i := 3) sc_l_bad_round.nd rfl (by first | exact Or.inl rfl | exact Or.inr rfl) (pe_op op_addU (pv 2) (pe_can C_l_pick hr (by decide) rfl (pa_cons (pv 0) (pa_cons (pe_op op_sub (pe_callB call_lenU (by rfl) B.b_len boot_len (pa_cons (pv 1) pa_nil)) (pv 2)) pa_nil)))))
  (pss_cons (ps_set (i := 4) sc_l_bad_round.nd rfl (by first | exact Or.inl rfl | exact Or.inr rfl) (pe_op op_addU (pe_op op_addU (pe_slice sl_U (pv 1) po_none (po_some (pv 3))) (pe_ix (ix_U (hu1 hr)) (pe_strL [120, 87, 71, 48, 45, 44, 32, 50] (by decide +kernel)) (pe_can C_l_pick hr (by decide) rfl (pa_cons (pv 0) (pa_cons pe_int pa_nil))) (fun _ _ => rfl))) (pe_slice sl_U (pv 1) (po_some (pe_op op_addU (pv 3) pe_int)) po_none)))
  (pss_one (ps_ret (pe_tup (pa_cons (pe_op op_addU (pe_op op_addU (pe_slice sl_U (pv 4) po_none (po_some (pv 2))) (pe_ix (ix_U (hu1 hr)) (pe_strL [120, 87, 71, 48, 45, 44, 32, 50] (by decide +kernel)) (pe_can C_l_pick hr (by decide) rfl (pa_cons (pv 0) (pa_cons pe_int pa_nil))) (fun _ _ => rfl))) (pe_slice sl_U (pv 4) (po_some (pe_op op_addU (pv 2) pe_int)) po_none)) (pa_cons (pv 2) pa_nil))))))))), ?_⟩)
  · obtain ⟨_, _, rfl, _⟩ := h
    rfl
  · obtain ⟨v_draw_here, v_row_here, rfl, h⟩ := h
    show WS K ba _ [some v_draw_here, some v_row_here, none, none, none, none] τ _
    dsimp only [cxOf, Cx.nox, Cx.wish, Cx.tr, Cx.suite, Cx.blk]
    obtain ⟨l, rfl, hs, ⟨l1, l24⟩, hd, q⟩ := h
    walk_at "dw"
    refine sp_pick hd (by omega) fun k k0 k1 => ?_
    walk_at "dw"
    refine w_ite (fun h0 => ?_) (fun h0 => ?_)
    · walk_at "dw"
      refine d_repS (by omega) (by omega) (small (by
        show l.length * 25 ≤ _
        omega)) ?_
      obtain ⟨s, hs1⟩ : ∃ s, s = (List.replicate (25 : Int).toNat l).flatten := ⟨_, rfl⟩
      have ls : s.length = 25 * l.length := by rw [hs1, rep_len']; rfl
      rw [← hs1]
      clear hs1
      walk_at "dw"
      refine d_repS (by omega) (by omega) (small (by
        show 1 * 25 ≤ _
        omega)) ?_
      obtain ⟨s2, hs2⟩ : ∃ s2, s2 = (List.replicate (25 : Int).toNat ([120] : List Nat)).flatten := ⟨_, rfl⟩
      have ls2 : s2.length = 25 := by rw [hs2, rep_len']; rfl
      rw [← hs2, cut_to (by decide)]
      clear hs2
      have l25 : (s.take (25 : Int).toNat).length = 25 := by
        rw [List.length_take, show (25 : Int).toNat = 25 from rfl]
        omega
      obtain ⟨s3, hs3⟩ : ∃ s3, s3 = s.take (25 : Int).toNat := ⟨_, rfl⟩
      rw [← hs3] at l25 ⊢
      clear hs3
      walk_at "dw"
      refine sp_pick hd (by omega) fun m m0 m1 => ?_
      walk_at "dw"
      obtain ⟨x, hx, hf, hb⟩ : ∃ x, [D.str [], D.str s3, D.str s2, D.non, D.int 7, D.bl true, D.tup [D.str [119]], D.lst [D.str [119]]][m.toNat]? = some x ∧ fine x ∧ badRound x = some (-1) := by
        have : m = 0 ∨ m = 1 ∨ m = 2 ∨ m = 3 ∨ m = 4 ∨ m = 5 ∨ m = 6 ∨ m = 7 := by omega
        rcases this with rfl | rfl | rfl | rfl | rfl | rfl | rfl | rfl
        · exact ⟨_, rfl, fine_str (Nat.zero_le _), rfl⟩
        · exact ⟨_, rfl, fine_str (by omega), badRound_len (by omega)⟩
        · exact ⟨_, rfl, fine_str (by omega), badRound_len (by omega)⟩
        · exact ⟨_, rfl, ⟨rfl, fun l e => by cases e⟩, rfl⟩
        · exact ⟨_, rfl, ⟨rfl, fun l e => by cases e⟩, rfl⟩
        · exact ⟨_, rfl, ⟨rfl, fun l e => by cases e⟩, rfl⟩
        · exact ⟨_, rfl, ⟨rfl, fun l e => by cases e⟩, rfl⟩
        · exact ⟨_, rfl, ⟨rfl, fun l e => by cases e⟩, rfl⟩
      refine d_ixL' rs_nd m0 hx ?_
      have nk := base_notk2 (y := .int (-1)) hf.1 rfl
      walk_at "dw"
      exact out_same rfl (q x (-1) hf hb)
    · walk_at "dw"
      refine sp_pick hd (by omega) fun p p0 p1 => ?_
      walk_at "dw"
      refine sp_pick hd (by omega) fun t t0 t1 => ?_
      walk_at "dw"
      rw [cut_to (by omega)]
      refine sp_pick hd (by omega) fun c c0 c1 => ?_
      walk_at "dw"
      refine d_ixS' (small (Nat.le_of_ble_eq_true rfl)) c0 (get_gd (by show _ < 8; omega)) ?_
      walk_at "dw"
      rw [cut_from (by omega)]
      walk_at "dw"
      rw [cut_to p0]
      refine sp_pick hd (by omega) fun g g0 g1 => ?_
      walk_at "dw"
      refine d_ixS' (small (Nat.le_of_ble_eq_true rfl)) g0 (get_gd (by show _ < 8; omega)) ?_
      walk_at "dw"
      rw [cut_from (by omega)]
      walk_at "dw"
      have hpt : p.toNat ≤ (p + t).toNat := by omega
      have lt2 : (p + t).toNat < l.length := by omega
      have e1 : (l.take (p + t).toNat ++ [([120, 87, 71, 48, 45, 44, 32, 50] : List Nat).getD c.toNat 0] ++ l.drop (p + t + 1).toNat).take p.toNat = l.take p.toNat := by
        rw [List.append_assoc, List.take_append_of_le_length (by rw [List.length_take]; omega), List.take_take, Nat.min_eq_left hpt]
      rw [e1]
      have lp : (l.take p.toNat).length = p.toNat := by rw [List.length_take]; omega
      have hb := bad_at (r := (l.take (p + t).toNat ++ [([120, 87, 71, 48, 45, 44, 32, 50] : List Nat).getD c.toNat 0] ++ l.drop (p + t + 1).toNat).drop (p + 1).toNat) (hs.take p.toNat) (bad8 ⟨g.toNat, by omega⟩) (by simp; omega)
      rw [lp, show ((p.toNat : Nat) : Int) = p by omega] at hb
      exact out_same rfl (q _ _ (fine_str (by simp; omega)) hb)
end
end Fk

set_option Elab.async false
set_option linter.all false
set_option maxRecDepth 100000
set_option maxHeartbeats 4000000
namespace Fk
open PySem PySem.Spec PyProof.Rows L2 Fg Pu
local macro_rules | `(tactic| walk_at "rs") => `(tactic| first | exact rs_str | exact rs_int | exact rs_bl | exact rs_non | exact rs_nd | exact rs_cell rfl | exact rs_cell app_last | exact rs_cell (app_at (by assumption)) | exact rs_cell (by assumption) | exact rs_cell app_last2 | exact base_rs (by assumption) | exact pln_rs (by assumption) | assumption)
local macro_rules | `(tactic| walk_at "dw1") => `(tactic| first
  | with_reducible refine w_seq ?_
  | with_reducible refine w_asg ?_
  | with_reducible refine w_gname ?_
  | ((with_reducible refine' w_retC ?h1 ?h2 ?_); (case h1 => exact rfl); (case h2 => first | exact rfl | exact app_last | exact app_at (by assumption) | assumption | exact app_last2))
  | with_reducible refine w_ret ?_
  | with_reducible refine w_retK ?_
  | with_reducible refine w_minKey ?_
  | with_reducible refine d_leIS ?_
  | with_reducible refine d_eqI0 ?_
  | ((with_reducible refine' w_gtup ?h ?_); (case h => exact rfl))
  | with_reducible refine w_gcons ?_
  | with_reducible refine w_gnil ?_
  | ((with_reducible refine' gv_tup ?h ?_); (case h => exact rfl))
  | with_reducible refine gv_cons ?_
  | with_reducible refine gv_nil ?_
  | ((with_reducible refine' gv_name ?h ?_); (case h => decide))
  | with_reducible refine w_retN ?_
  | with_reducible refine w_next ?_
  | with_reducible refine w_break ?_
  | with_reducible refine w_cont ?_
  | with_reducible refine w_drop ?_
  | with_reducible refine w_ifS ?_
  | with_reducible refine w_if ?_
  | with_reducible refine w_par ?_
  | with_reducible refine w_pair ?_
  | ((with_reducible refine' w_rng1 ?h ?_); (case h => omega))
  | ((with_reducible refine' w_rng2 ?h ?_); (case h => omega))
  | with_reducible refine w_test ?_
  | with_reducible refine w_tB ?_
  | with_reducible refine w_not ?_
  | with_reducible refine w_and ?_
  | with_reducible refine w_or ?_
  | with_reducible refine w_andV ?_
  | with_reducible refine w_orV ?_
  | with_reducible refine w_notV ?_
  | with_reducible refine w_nil ?_
  | with_reducible refine w_cons ?_
  | with_reducible refine w_call0 ?_
  | ((with_reducible refine' w_callX ?hE ?_); (case hE => assumption))
  | ((with_reducible refine' w_callS ?hW ?_); (case hW => assumption))
  | ((with_reducible refine' w_raise ?hE ?_); (case hE => assumption))
  | ((with_reducible refine' w_one ?h1 ?_); (case h1 => first | exact rfl | assumption))
  | with_reducible refine sp1_at ?_
  | with_reducible refine sp2_at ?_
  | with_reducible refine sp3_at ?_
  | with_reducible refine sp4_at ?_
  | with_reducible refine sp5_at ?_
  | with_reducible refine sp6_at ?_
  | with_reducible refine w_draw ?_
  | with_reducible refine w_cb ?_
  | with_reducible refine w_then ?_
  | with_reducible refine w_sl ?_
  | with_reducible refine w_nopart ?_
  | with_reducible refine w_part ?_
  | with_reducible refine w_op ?_
  | with_reducible refine w_un ?_
  | with_reducible refine w_chain ?_
  | ((with_reducible refine' w_var ?hv ?_); (case hv => exact rfl))
  | with_reducible refine w_cI ?_
  | with_reducible refine w_cB ?_
  | with_reducible refine w_cN ?_
  | with_reducible refine w_cS ?_
  | with_reducible refine w_cs ?_
  | with_reducible refine w_cR ?_
  | with_reducible refine w_yes ?_
  | ((with_reducible refine' w_fz1 ?h1 ?h2 ?_); (case h1 => exact rfl); (case h2 => first | exact rfl | exact app_last | exact app_at (by assumption) | assumption | exact app_last2))
  | with_reducible refine w_fz0 ?_
  | with_reducible refine w_dnewK ?_
  | with_reducible refine w_dnewT ?_
  | with_reducible refine w_bl ?_
  | with_reducible refine w_in ?_
  | with_reducible refine w_tru1 ?_
  | with_reducible refine w_tup ?_
  | with_reducible refine w_lst ?_
  | with_reducible refine w_lstC' ?_
  | ((with_reducible refine' w_mk ?h1 ?h2 ?_); (case h1 => first | exact rfl | assumption); (case h2 => exact small (Nat.le_of_ble_eq_true rfl)))
  | with_reducible refine w_strE ?_
  | ((with_reducible refine' w_lstE ?h1 ?_); (case h1 => walk_at "rs"))
  | with_reducible refine t_bl ?_
  | with_reducible refine t_non ?_
  | with_reducible refine t_int ?_
  | ((with_reducible refine' t_str ?h ?_); (case h => first | assumption | omega))
  | ((with_reducible refine' t_lst ?h ?_); (case h => walk_at "rs"))
  | ((with_reducible refine' t_tup ?h ?_); (case h => walk_at "rs"))
  | with_reducible refine w_bmS ?_
  | with_reducible refine w_bmL ?_
  | with_reducible refine d_addI ?_
  | with_reducible refine d_I0 ?_
  | with_reducible refine d_I0b ?_
  | with_reducible refine d_cmpI ?_
  | ((with_reducible refine' d_catS ?h ?_); (case h => first | exact small (by omega) | exact small (by simp; omega)))
  | ((with_reducible refine d_I ?hc ?_); (case hc => first | assumption | (show (0 : Int) < _; decide) | exact Or.inr ⟨by decide, by decide⟩ | exact Or.inr ⟨by omega, by omega⟩ | exact Or.inl ⟨by decide, by decide⟩ | exact (show CDivW _ _ from ⟨by decide, by decide +kernel⟩) | exact (show CPowW _ _ from ⟨by decide, by decide +kernel⟩) | (show (0 : Int) < _; omega)))
  | ((with_reducible refine' d_mulI ?h ?_); (case h => first | exact Or.inr ⟨by decide, by decide⟩ | exact Or.inr ⟨by omega, by omega⟩ | exact Or.inl ⟨by decide, by decide⟩ | exact Or.inl ⟨by omega, by omega⟩))
  | ((with_reducible refine' d_div ?h ?_); (case h => first | assumption | exact ⟨by decide, by decide⟩ | exact ⟨by omega, by omega⟩))
  | with_reducible refine d_neg ?_
  | ((with_reducible refine' d_lenS ?h ?_); (case h => first | exact small (by omega) | exact small (by simp; omega)))
  | ((with_reducible refine' d_lenL ?h ?_); (case h => walk_at "rs"))
  | ((with_reducible refine' d_lenT ?ht ?h ?_); (case h => walk_at "rs"); (case ht => first | exact Or.inl rfl | exact Or.inr rfl))
  | ((with_reducible refine' d_lenK ?h ?_); (case h => walk_at "rs"))
  | ((with_reducible refine' d_eqS ?_))
  | ((with_reducible refine' d_neS ?_))
  | ((with_reducible refine' d_eqI ?_))
  | ((with_reducible refine' d_neI ?_))
  | ((with_reducible refine' d_eqB ?_))
  | ((with_reducible refine' d_neB ?_))
  | with_reducible refine d_inS ?_
  | with_reducible refine d_ninS ?_
  | ((with_reducible refine' d_slS ?h ?_); (case h => first | exact small (by omega) | exact small (by simp; omega)))
  | ((with_reducible refine' d_slL ?h ?_); (case h => walk_at "rs"))
  | ((with_reducible refine' d_ixL' ?h1 ?h2 ?h3 ?_); (case h1 => walk_at "rs"); (case h2 => first | decide | omega); (case h3 => first | exact rfl | assumption))
  | ((with_reducible refine' d_ixT' ?ht ?h1 ?h2 ?h3 ?_); (case h1 => walk_at "rs"); (case ht => first | exact Or.inl rfl | exact Or.inr rfl); (case h2 => first | decide | omega); (case h3 => first | exact rfl | assumption))
  | ((with_reducible refine' d_isi ?h1 ?h2 ?h3 ?_); (case h1 => walk_at "rs"); (case h2 => first | exact rfl | assumption); (case h3 => first | exact kb_int_int | exact kb_int_bool | exact kb_int_str | exact kb_int_list | exact kb_int_tuple | exact kb_bool_int | exact kb_bool_bool | exact kb_bool_str | exact kb_bool_list | exact kb_bool_tuple | exact kb_str_int | exact kb_str_bool | exact kb_str_str | exact kb_str_list | exact kb_str_tuple | exact kb_NoneType_int | exact kb_NoneType_bool | exact kb_NoneType_str | exact kb_NoneType_list | exact kb_NoneType_tuple | exact kb_list_int | exact kb_list_bool | exact kb_list_str | exact kb_list_list | exact kb_list_tuple | exact kb_tuple_int | exact kb_tuple_bool | exact kb_tuple_str | exact kb_tuple_list | exact kb_tuple_tuple))
  | ((with_reducible refine' d_isStr ?h1 ?h2 ?_); (case h1 => walk_at "rs"); (case h2 => first | exact rfl | assumption))
  | ((with_reducible refine' d_isInt ?h1 ?h2 ?_); (case h1 => walk_at "rs"); (case h2 => first | exact rfl | assumption))
  | ((with_reducible refine' d_isBool ?h1 ?h2 ?_); (case h1 => walk_at "rs"); (case h2 => first | exact rfl | assumption))
  | ((with_reducible refine' d_isLst ?h1 ?h2 ?_); (case h1 => walk_at "rs"); (case h2 => first | exact rfl | assumption))
  | ((with_reducible refine' d_isTup ?h1 ?h2 ?_); (case h1 => walk_at "rs"); (case h2 => first | exact rfl | assumption))
  | ((with_reducible refine' d_isN ?h ?_); (case h => first | exact nr_non | exact nr_int | exact nr_str | exact nr_tk | exact nr_nd | exact nr_bl | exact nr_base (by assumption) | assumption))
  | ((with_reducible refine' d_notN ?h ?_); (case h => first | exact nr_non | exact nr_int | exact nr_str | exact nr_tk | exact nr_nd | exact nr_bl | exact nr_base (by assumption) | assumption))
  | with_reducible refine d_int ?_
  | with_reducible refine d_abs ?_
  | ((with_reducible refine' d_tupL ?h ?_); (case h => walk_at "rs"))
  | with_reducible refine d_tupT ?_
  | ((with_reducible refine' d_listL ?h ?_); (case h => walk_at "rs"))
  | ((with_reducible refine' d_listT ?ht ?h ?_); (case h => walk_at "rs"); (case ht => first | exact Or.inl rfl | exact Or.inr rfl))
  | ((with_reducible refine' d_append ?h1 ?h2 ?h3 ?_); (case h1 => first | exact rfl | exact app_last | exact app_at (by assumption) | assumption | exact app_last2); (case h2 => first | exact rfl | assumption); (case h3 => first | omega | (simp; omega)))
  | rw [clo_tk] | rw [clo_none] | rw [clo_str] | rw [clo_int] | rw [clo_node] | rw [clo_bl] | rw [clo_non] | rw [clo_nil] | rw [clo_ne (ne_at (by assumption))] | rw [clo_ne (ne_at' (by assumption))]
  | with_reducible refine w_T ?_
  | with_reducible refine w_F ?_
  | with_reducible refine w_nT ?_
  | with_reducible refine w_nF ?_
  | ((with_reducible refine And.intro ?h ?_); (case h => first | assumption | exact rfl | omega | exact ⟨_, rfl, rfl⟩ | exact isDraw_app (by assumption) | exact app_at (by assumption))))
local macro_rules | `(tactic| walk_at "dw") => `(tactic| ((try dsimp only); repeat (walk_at "dw1")))
open Rt

section
variable {P : Program} {w : World} {K : PySem.W.Frag} {T : Tbs} {mg : Str → Option Value} {base : Heap}
theorem sub_all {l : List Nat} : sub l 0 l.length = l := by
  unfold sub
  rw [List.drop_zero, List.take_length]
theorem eqv_pair {a b : List Nat} : D.eqv (.tup [.str a, .str b]) (.tup [.str a, .str b]) = true := by
  simp [D.eqv, D.py, pyA, PyData.eqv, PyData.eqvAll]

abbrev s_law : Stmt := topS 46
abbrev N_law : List Str := ["_law_script", "_law_draw_here", "_law_rows", "_law_row_here", "_law_bad", "_law_told_here"]
theorem sc_law : FnScope ["_law_script", "_law_draw_here", "_law_rows", "_law_row_here", "_law_bad", "_law_told_here"] ["_law_script"] (defScope s_law) := ⟨rfl, rfl, rfl, by decide +kernel, rfl, by decide +kernel, by decide +kernel⟩
theorem ok_law (B : Bi mg) (C_l_draw : Can P w K mg base L2.CX0 1 "_law_draw" ["_law_script"] (spDrawH K)) (C_l_row : Can P w K mg base L2.CX0 5 "_law_row" ["_law_draw_here"] (mkSp K T sp_row)) (C_l_told : Can P w K mg base L2.CX0 26 "_law_told" ["_law_kind", "_law_thing"] (mkSp K T sp_told)) (C_l_table : Can P w K mg base L2.CX0 3 "_law_table" ["_law_row_here"] (mkSp K T sp_table)) (C_l_bad_round : Can P w K mg base L2.CX0 3 "_law_bad_round" ["_law_draw_here", "_law_row_here"] (mkSp K T sp_bad_round)) (C_l_is_int : Can P w K mg base L2.CX0 1 "_law_is_int" ["_law_thing"] (mkSp K T sp_isint))  {f : Addr} {fd : FuncData} (F : Fun K "law" "law" s_law f fd) : FnOk P w K mg base L2.CX0 27 f fd ["_law_script"] (spLaw K T) := by
  refine okLaw F sc_law (fun cdv A outer s H E ba a ns hr hs hl => ⟨_, (pss_cons (ps_set (i := 1) sc_law.nd rfl (by first | exact Or.inl rfl | exact Or.inr rfl) (pe_can C_l_draw hr (by decide) rfl (pa_cons (pv 0) pa_nil)))
  (pss_cons (ps_set (i := 2) sc_law.nd rfl (by first | exact Or.inl rfl | exact Or.inr rfl) (pe_lst (pa_cons (pe_can C_l_row hr (by decide) rfl (pa_cons (pv 1) pa_nil)) (pa_cons (pe_can C_l_row hr (by decide) rfl (pa_cons (pv 1) pa_nil)) pa_nil))))
  (pss_cons (ps_for PassesOwn.never rfl (pi_seq (pe_op op_addU (pv 2) (pe_lst (pa_cons (pe_ix (ix_U (hu1 hr)) (pv 2) pe_int (fun _ _ => rfl)) pa_nil)))) (pg_name (i := 3) sc_law.nd rfl (by first | exact Or.inl rfl | exact Or.inr rfl))
    (pss_cons (ps_set (i := 5) sc_law.nd rfl (by first | exact Or.inl rfl | exact Or.inr rfl) (pe_can C_l_told hr (by decide) rfl (pa_cons pe_int (pa_cons (pv 3) pa_nil))))
  (pss_cons (ps_if (PW.pt (pw_or (pt_cmpR (op_neP (hu64 hr)) (pe_ix (ix_U (hu1 hr)) (pv 5) pe_int (fun _ _ => rfl)) (pe_strL [116, 111, 108, 100] (by decide +kernel)) (nomark _)) (pw_or (pt_not (pt_tru (pe_callB call_isi (by rfl) B.b_isinstance boot_isinstance (pa_cons (pe_ix (ix_U (hu1 hr)) (pv 5) pe_int (fun _ _ => rfl)) (pa_cons (pe_bltn (v := .ty "str") (by rfl) B.b_str boot_str rfl) pa_nil))))) (pw_or1 (pt_cmpR (op_inU (hu64 hr)) (pe_strL [38] (by decide +kernel)) (pe_ix (ix_U (hu1 hr)) (pv 5) pe_int (fun _ _ => rfl)) (by rfl)))))) (pss_one (ps_ret pe_bl)) pss_nil)
  (pss_cons (ps_if (pt_cmpR (op_neP (hu64 hr)) (pe_ix (ix_U (hu1 hr)) (pv 5) pe_int (fun _ _ => rfl)) (pe_ix (ix_U (hu1 hr)) (pe_can C_l_table hr (by decide) rfl (pa_cons (pv 3) pa_nil)) (pe_tup (pa_cons pe_int (pa_cons (pe_callB call_lenU (by rfl) B.b_len boot_len (pa_cons (pv 3) pa_nil)) pa_nil))) (fun _ _ => rfl)) (nomark _)) (pss_one (ps_ret pe_bl)) pss_nil)
  (pss_one (ps_if (pt_cmpR (op_neP (hu64 hr)) (pe_can C_l_told hr (by decide) rfl (pa_cons pe_int (pa_cons (pe_ix (ix_U (hu1 hr)) (pv 5) pe_int (fun _ _ => rfl)) pa_nil))) (pe_tup (pa_cons (pe_strL [116, 111, 108, 100] (by decide +kernel)) (pa_cons (pv 3) pa_nil))) (nomark _)) (pss_one (ps_ret pe_bl)) pss_nil))))))
  (pss_cons (ps_set (i := 4) sc_law.nd rfl (by first | exact Or.inl rfl | exact Or.inr rfl) (pe_can C_l_bad_round hr (by decide) rfl (pa_cons (pv 1) (pa_cons (pe_ix (ix_U (hu1 hr)) (pv 2) pe_int (fun _ _ => rfl)) pa_nil))))
  (pss_cons (ps_set (i := 5) sc_law.nd rfl (by first | exact Or.inl rfl | exact Or.inr rfl) (pe_can C_l_told hr (by decide) rfl (pa_cons pe_int (pa_cons (pe_ix (ix_U (hu1 hr)) (pv 4) pe_int (fun _ _ => rfl)) pa_nil))))
  (pss_one (ps_ret (pe_and (pe_cmpR (op_eqP (hu64 hr)) (pe_ix (ix_U (hu1 hr)) (pv 5) pe_int (fun _ _ => rfl)) (pe_strL [114, 111, 117, 110, 100] (by decide +kernel)) (nomark _)) (pe_and (pe_can C_l_is_int hr (by decide) rfl (pa_cons (pe_ix (ix_U (hu1 hr)) (pv 5) pe_int (fun _ _ => rfl)) pa_nil)) (pe_one (pe_cmpR (op_eqP (hu64 hr)) (pe_ix (ix_U (hu1 hr)) (pv 5) pe_int (fun _ _ => rfl)) (pe_ix (ix_U (hu1 hr)) (pv 4) pe_int (fun _ _ => rfl)) (nomark _)))))))))))), ?_⟩)
  show WS K ba _ [some (.raw (.ref a)), none, none, none, none, none] [] _
  dsimp only [cxOf, Cx.nox, Cx.wish, Cx.tr, Cx.suite, Cx.blk]
  walk_at "dw"
  refine ⟨a, ns, rfl, hs, hl, ?_⟩
  have hd : IsDraw ([] ++ [Cl.draw]) (.tk ([] : Tau).length) := ⟨0, rfl, rfl⟩
  walk_at "dw"
  refine fun l1 s1 a1 b1 => ?_
  walk_at "dw"
  refine fun l2 s2 a2 b2 => ?_
  walk_at "dw"
  refine w_for (fun i ρ' τ' => ∃ o3 o5, ρ' = [some (.raw (.ref a)), some (.tk ([] : Tau).length), some (D.lst [.str l1, .str l2]), o3, none, o5] ∧ τ' = [] ++ [Cl.draw]) (w_iSeq ?_)
  walk_at "dw"
  refine d_catL rs_nd rs_nd (Nat.le_of_ble_eq_true rfl) ?_
  refine .inl ⟨.lst, _, .inl rfl, rs_nd, ⟨none, none, rfl, rfl⟩, fun _ _ _ _ _ => rfl, fun i ρ' τ' hi hJ => ?_, fun ρ' τ' hJ => ?_⟩
  · obtain ⟨o3, o5, rfl, rfl⟩ := hJ
    obtain ⟨l, hn, hS, z1, z2⟩ : ∃ l, nth ([D.str l1, D.str l2] ++ [D.str l1]) i = .str l ∧ AllSg l ∧ 1 ≤ l.length ∧ l.length ≤ 24 := by
      have hi : i < 3 := hi
      have : i = 0 ∨ i = 1 ∨ i = 2 := by omega
      rcases this with rfl | rfl | rfl
      · exact ⟨l1, rfl, s1, a1, b1⟩
      · exact ⟨l2, rfl, s2, a2, b2⟩
      · exact ⟨l1, rfl, s1, a1, b1⟩
    rw [hn]
    walk_at "dw"
    refine .inl ⟨rfl, fine_str (by omega), ?_⟩
    rw [badRound_ok hS z1 z2]
    intro l' e im
    injection e with e
    subst e
    have tl := im.le
    walk_at "dw"
    refine w_F' (by simp) ?_
    walk_at "dw"
    have na : 38 ∉ minT l := fun h => W_and im.1 hS 38 h rfl
    refine w_F' (decide_eq_false na) ?_
    walk_at "dw"
    refine fun kvs hk => ?_
    have hv := hk.1
    rw [sub_all] at hv
    walk_at "dw"
    refine d_ixDt rs_nd (keys2 (lo := 0) (k := l.length) rfl (by omega)) hv ?_
    walk_at "dw"
    refine w_F' (by simp) ?_
    walk_at "dw"
    refine .inr ⟨rfl, minT l, l, rfl, by omega, W_reads im.1 hS z2, z2, ?_⟩
    walk_at "dw"
    refine d_ne (n := 2) (m := 2) rs_nd rs_nd rfl rfl (by decide) ?_
    rw [eqv_pair]
    walk_at "dw"
    exact ⟨_, _, rfl, rfl⟩
  · obtain ⟨o3, o5, rfl, rfl⟩ := hJ
    walk_at "dw"
    refine fun x j hf hb => ?_
    walk_at "dw"
    refine .inl ⟨rfl, hf, ?_⟩
    rw [hb]
    show _
    walk_at "dw"
    refine w_T' (by simp) ?_
    walk_at "dw"
    exact congrArg D.bl (decide_eq_true rfl)
end
end Fk

set_option Elab.async false
set_option linter.all false
set_option maxRecDepth 100000
set_option maxHeartbeats 4000000
namespace Fk
open PySem PySem.Spec PyProof.Rows L2 Fg Pu
section
variable {P : Program} {w : World} {K : PySem.W.Frag} {mg : Str → Option Value} {base : Heap}
theorem sc_init_BadRound : FnScope ["self", "number"] ["self", "number"] (defScope (inClass (topS 3) 0)) := ⟨rfl, rfl, rfl, by decide +kernel, rfl, by decide +kernel, by decide +kernel⟩
theorem ok_init_BadRound {C fI : Addr} {fd : FuncData} (o : OexC K C) (n : PySem.W.findIn K (.ref C) "number" = some none) (F : Fun K "__init__" "BadRound.__init__" (inClass (topS 3) 0) fI fd) : FnOk P w K mg base L2.CX0 1 fI fd ["self", "number"] (spInit C "number") := by
  refine F.ok sc_init_BadRound (fun vs H Q E h => ?_) (fun cdv A outer s H vs Q E hr h => ⟨_, pss_one (ps_ost (pv 0) (pv 1)), ?_⟩)
  · obtain ⟨_, _, rfl, _⟩ := h
    rfl
  · obtain ⟨a, v, rfl, ha, q⟩ := h
    exact r_ost rfl rfl o n ha q
theorem sc_init_BadText : FnScope ["self", "at"] ["self", "at"] (defScope (inClass (topS 4) 0)) := ⟨rfl, rfl, rfl, by decide +kernel, rfl, by decide +kernel, by decide +kernel⟩
theorem ok_init_BadText {C fI : Addr} {fd : FuncData} (o : OexC K C) (n : PySem.W.findIn K (.ref C) "at" = some none) (F : Fun K "__init__" "BadText.__init__" (inClass (topS 4) 0) fI fd) : FnOk P w K mg base L2.CX0 1 fI fd ["self", "at"] (spInit C "at") := by
  refine F.ok sc_init_BadText (fun vs H Q E h => ?_) (fun cdv A outer s H vs Q E hr h => ⟨_, pss_one (ps_ost (pv 0) (pv 1)), ?_⟩)
  · obtain ⟨_, _, rfl, _⟩ := h
    rfl
  · obtain ⟨a, v, rfl, ha, q⟩ := h
    exact r_ost rfl rfl o n ha q
theorem sc_init_TooLong : FnScope ["self", "number"] ["self", "number"] (defScope (inClass (topS 5) 0)) := ⟨rfl, rfl, rfl, by decide +kernel, rfl, by decide +kernel, by decide +kernel⟩
theorem ok_init_TooLong {C fI : Addr} {fd : FuncData} (o : OexC K C) (n : PySem.W.findIn K (.ref C) "number" = some none) (F : Fun K "__init__" "TooLong.__init__" (inClass (topS 5) 0) fI fd) : FnOk P w K mg base L2.CX0 1 fI fd ["self", "number"] (spInit C "number") := by
  refine F.ok sc_init_TooLong (fun vs H Q E h => ?_) (fun cdv A outer s H vs Q E hr h => ⟨_, pss_one (ps_ost (pv 0) (pv 1)), ?_⟩)
  · obtain ⟨_, _, rfl, _⟩ := h
    rfl
  · obtain ⟨a, v, rfl, ha, q⟩ := h
    exact r_ost rfl rfl o n ha q
theorem rel_lit {l : List Nat} {s : String} {t : Tok} (h : S l = Str.ofString s) : RelV (.str (S l)) (.str (Str.ofString s) t) := ⟨t, by rw [h]⟩
theorem bad_do {R : Prop} {q1 q2 f1 f2 : Str} {st1 st2 : Stmt} {p1 p2 : List Str} {C CB G : Addr} (X1 : ErrC K "BadRound" q1 f1 st1 p1 C) (X2 : ErrC K "BadText" q2 f2 st2 p2 CB) (gG : mg "GlimError" = some (.ref G))
    (h1 : PySem.W.subIn K (.ref G) (.type "BaseException") = some true) (h2 : PySem.W.isClsIn K G = true) (h3 : PySem.W.typeIn K (.ref G) = some (.type "type")) (h4 : PySem.W.subIn K (.ref C) (.ref G) = some true)
    (k1 : PySem.W.kitOne K (.ref C) (.ref C) = some true) (k2 : PySem.W.kitOne K (.ref C) (.ref CB) = some false) (k3 : PySem.W.kitOne K (.ref C) (.type "ValueError") = some true)
    (n : PySem.W.exmOne K (.ref C) (.ref G) = some true → PySem.W.kitOne K (.ref C) (.ref C) = some true → PySem.W.kitOne K (.ref C) (.ref CB) = some false → PySem.W.kitOne K (.ref C) (.type "ValueError") = some true → R) : R := n (exm_mk h1 h2 h3 h4) k1 k2 k3
theorem law_all (B : Bi mg) (F_is_sign : Defd K mg "is_sign" s_is_sign ["thing"]) (F_kept : Defd K mg "kept" s_kept ["beats", "row"]) (F_char_at : Defd K mg "char_at" s_char_at ["text", "at"]) (F_end_of_run : Defd K mg "end_of_run" s_end_of_run ["text", "at"]) (F_together : Defd K mg "together" s_together ["beats", "row", "other_beats", "other"]) (F_size_of_run : Defd K mg "size_of_run" s_size_of_run ["text", "at", "end"]) (F_read_whole : Defd K mg "read_whole" s_read_whole ["text", "at", "beats"]) (F_read_item : Defd K mg "read_item" s_read_item ["text", "at", "deep"]) (F_read_part : Defd K mg "read_part" s_read_part ["text", "at", "deep"]) (F_read_parts : Defd K mg "read_parts" s_read_parts ["text", "at", "deep"]) (F_read_round : Defd K mg "read_round" s_read_round ["text"]) (F_mix : Defd K mg "_law_mix" s_l_mix ["_law_cell", "_law_turn"]) (F_draw : Defd K mg "_law_draw" s_l_draw ["_law_script"]) (F_pick : Defd K mg "_law_pick" s_l_pick ["_law_draw_here", "_law_many"]) (F_wrong_sign : Defd K mg "wrong_sign" s_wrong_sign ["text"]) (F_check_round : Defd K mg "check_round" s_check_round ["row"]) (F_item_texts : Defd K mg "item_texts" s_item_texts ["piece", "texts"]) {c_best_text P_best_text : Addr} (F_best_text : DefdC K mg "best_text" s_best_text ["piece", "texts"] c_best_text) (TB_best_text : LamX.TabB base mg c_best_text P_best_text) (F_fold_round : Defd K mg "fold_round" s_fold_round ["row"]) (F_l_is_int : Defd K mg "_law_is_int" s_l_is_int ["_law_thing"]) (F_l_sign : Defd K mg "_law_sign" s_l_sign ["_law_draw_here"]) (F_l_round : Defd K mg "_law_round" s_l_round ["_law_draw_here", "_law_most"]) (F_l_bent : Defd K mg "_law_bent" s_l_bent ["_law_draw_here", "_law_row_here"]) (F_l_row : Defd K mg "_law_row" s_l_row ["_law_draw_here"]) (F_l_better : Defd K mg "_law_better" s_l_better ["_law_one", "_law_two"]) (F_l_one_item : Defd K mg "_law_one_item" s_l_one_item ["_law_row_here", "_law_low", "_law_high", "_law_filled"]) (F_l_table : Defd K mg "_law_table" s_l_table ["_law_row_here"]) (F_l_told : Defd K mg "_law_told" s_l_told ["_law_kind", "_law_thing"]) (F_l_bad_round : Defd K mg "_law_bad_round" s_l_bad_round ["_law_draw_here", "_law_row_here"]) {A_BadRound : Addr} (E_BadRound : Err P w K mg base "BadRound" A_BadRound "number") {A_BadText : Addr} (E_BadText : Err P w K mg base "BadText" A_BadText "at") {A_TooLong : Addr} (E_TooLong : Err P w K mg base "TooLong" A_TooLong "number") {A_GlimError : Addr} (g_GlimError : mg "GlimError" = some (.ref A_GlimError)) (xm : PySem.W.exmOne K (.ref A_BadRound) (.ref A_GlimError) = some true) (k1 : PySem.W.kitOne K (.ref A_BadRound) (.ref A_BadRound) = some true) (k2 : PySem.W.kitOne K (.ref A_BadRound) (.ref A_BadText) = some false) (k3 : PySem.W.kitOne K (.ref A_BadRound) (.type "ValueError") = some true) (c_SIGNS : ∃ u, mg "SIGNS" = some u ∧ RelV (.str (S [46, 103, 114, 119])) u) (c_DIGITS : ∃ u, mg "DIGITS" = some u ∧ RelV (.str (S [48, 49, 50, 51, 52, 53, 54, 55, 56, 57])) u) (c_DARK : ∃ u, mg "DARK" = some u ∧ RelV (.str (S [46])) u) (c_MOST_BEATS : ∃ u, mg "MOST_BEATS" = some u ∧ RelV (.int 24) u) (c_MOST_DEEP : ∃ u, mg "MOST_DEEP" = some u ∧ RelV (.int 6) u) (c_LEAST_TIMES : ∃ u, mg "LEAST_TIMES" = some u ∧ RelV (.int 2) u) (c_MOST_TIMES : ∃ u, mg "MOST_TIMES" = some u ∧ RelV (.int 24) u) (g_lcm : mg "lcm" = some (.builtin "math.lcm")) {f : Addr} {fd : FuncData} (F : Fun K "law" "law" s_law f fd) : FnOk P w K mg base L2.CX0 27 f fd ["_law_script"] (spLaw K ([(P_best_text, ("best_text.<locals>.<lambda>" : Str))] : Tbs)) := by
  have C_is_sign : Can P w K mg base L2.CX0 1 "is_sign" ["thing"] spIsSign := by
    apply can_is_sign B F_is_sign <;> assumption
  have C_kept : Can P w K mg base L2.CX0 1 "kept" ["beats", "row"] spKept := by
    apply can_kept B F_kept <;> assumption
  have C_char_at : Can P w K mg base L2.CX0 1 "char_at" ["text", "at"] spChar := by
    apply can_char_at B F_char_at <;> assumption
  have C_end_of_run : Can P w K mg base L2.CX0 1 "end_of_run" ["text", "at"] spEnd := by
    apply can_end_of_run B F_end_of_run <;> assumption
  have C_together : Can P w K mg base L2.CX0 1 "together" ["beats", "row", "other_beats", "other"] spTogether := by
    apply can_together B F_together <;> assumption
  have C_size_of_run : Can P w K mg base (L2.CX P w) 3 "size_of_run" ["text", "at", "end"] (spSize A_BadText) := by
    apply can_size_of_run B F_size_of_run <;> assumption
  have C_read_whole : Can P w K mg base (L2.CX P w) 4 "read_whole" ["text", "at", "beats"] (spWhole A_BadText) := by
    apply can_read_whole B F_read_whole <;> assumption
  have C_read_parts : Can P w K mg base (L2.CX P w) 24 "read_parts" ["text", "at", "deep"] (spParts A_BadText 6) := by
    refine can_reader B F_read_item F_read_part F_read_parts ?_ ?_ ?_ ?_ ?_ ?_ ?_ ?_ ?_ ?_ ?_ ?_ ?_ ?_ 6 (Nat.le_refl _) <;> assumption
  have C_read_round : Can P w K mg base (L2.CX P w) 25 "read_round" ["text"] (spReadRound K A_BadText A_TooLong) := by
    apply can_read_round B F_read_round <;> assumption
  have CD_read_round := canD_read_round (T := ([(P_best_text, ("best_text.<locals>.<lambda>" : Str))] : Tbs)) C_read_round
  have C_mix := can_mix (P := P) (w := w) (base := base) B F_mix
  have C_l_draw : Can P w K mg base L2.CX0 1 "_law_draw" ["_law_script"] (spDrawH K) := Can.imp (can_draw (P := P) (w := w) (base := base) B F_draw) fun _ _ _ _ h => h
  have C_l_pick := canD_pick (T := ([(P_best_text, ("best_text.<locals>.<lambda>" : Str))] : Tbs)) (can_pick (P := P) (w := w) (base := base) B F_pick C_mix)
  have C_wrong_sign : Can P w K mg base L2.CX0 1 "wrong_sign" ["text"] (mkSp K ([(P_best_text, ("best_text.<locals>.<lambda>" : Str))] : Tbs) sp_wrong_sign) := by
    apply can_wrong_sign B F_wrong_sign <;> first | assumption | exact c_SIGNS | exact c_DIGITS | exact c_DARK | exact c_MOST_BEATS | exact c_MOST_DEEP | exact c_LEAST_TIMES | exact c_MOST_TIMES
  have C_check_round : Can P w K mg base (L2.CX P w) 3 "check_round" ["row"] (mkSp K ([(P_best_text, ("best_text.<locals>.<lambda>" : Str))] : Tbs) (sp_check_round A_BadRound)) := by
    apply can_check_round B F_check_round <;> first | assumption | exact c_SIGNS | exact c_DIGITS | exact c_DARK | exact c_MOST_BEATS | exact c_MOST_DEEP | exact c_LEAST_TIMES | exact c_MOST_TIMES
  have C_item_texts : Can P w K mg base L2.CX0 1 "item_texts" ["piece", "texts"] (mkSp K ([(P_best_text, ("best_text.<locals>.<lambda>" : Str))] : Tbs) sp_item_texts) := by
    apply can_item_texts B F_item_texts <;> first | assumption | exact c_SIGNS | exact c_DIGITS | exact c_DARK | exact c_MOST_BEATS | exact c_MOST_DEEP | exact c_LEAST_TIMES | exact c_MOST_TIMES
  have C_best_text : Can P w K mg base L2.CX0 3 "best_text" ["piece", "texts"] (mkSp K ([(P_best_text, ("best_text.<locals>.<lambda>" : Str))] : Tbs) sp_best_text) := can_best_text (T := ([(P_best_text, ("best_text.<locals>.<lambda>" : Str))] : Tbs)) B F_best_text TB_best_text (by simp) (by simp) (by assumption)
  have C_fold_round : Can P w K mg base (L2.CX P w) 4 "fold_round" ["row"] (mkSp K ([(P_best_text, ("best_text.<locals>.<lambda>" : Str))] : Tbs) (sp_fold_round A_BadRound)) := by
    apply can_fold_round B F_fold_round <;> first | assumption | exact c_SIGNS | exact c_DIGITS | exact c_DARK | exact c_MOST_BEATS | exact c_MOST_DEEP | exact c_LEAST_TIMES | exact c_MOST_TIMES
  have C_l_is_int : Can P w K mg base L2.CX0 1 "_law_is_int" ["_law_thing"] (mkSp K ([(P_best_text, ("best_text.<locals>.<lambda>" : Str))] : Tbs) sp_isint) := by
    apply can_l_is_int B F_l_is_int <;> first | assumption | exact c_SIGNS | exact c_DIGITS | exact c_DARK | exact c_MOST_BEATS | exact c_MOST_DEEP | exact c_LEAST_TIMES | exact c_MOST_TIMES
  have C_l_sign : Can P w K mg base L2.CX0 3 "_law_sign" ["_law_draw_here"] (mkSp K ([(P_best_text, ("best_text.<locals>.<lambda>" : Str))] : Tbs) sp_sign) := by
    apply can_l_sign B F_l_sign <;> first | assumption | exact c_SIGNS | exact c_DIGITS | exact c_DARK | exact c_MOST_BEATS | exact c_MOST_DEEP | exact c_LEAST_TIMES | exact c_MOST_TIMES
  have C_l_round : Can P w K mg base L2.CX0 4 "_law_round" ["_law_draw_here", "_law_most"] (mkSp K ([(P_best_text, ("best_text.<locals>.<lambda>" : Str))] : Tbs) sp_round) := by
    apply can_l_round B F_l_round <;> first | assumption | exact c_SIGNS | exact c_DIGITS | exact c_DARK | exact c_MOST_BEATS | exact c_MOST_DEEP | exact c_LEAST_TIMES | exact c_MOST_TIMES
  have C_l_bent : Can P w K mg base L2.CX0 4 "_law_bent" ["_law_draw_here", "_law_row_here"] (mkSp K ([(P_best_text, ("best_text.<locals>.<lambda>" : Str))] : Tbs) sp_bent) := by
    apply can_l_bent B F_l_bent <;> first | assumption | exact c_SIGNS | exact c_DIGITS | exact c_DARK | exact c_MOST_BEATS | exact c_MOST_DEEP | exact c_LEAST_TIMES | exact c_MOST_TIMES
  have C_l_row : Can P w K mg base L2.CX0 5 "_law_row" ["_law_draw_here"] (mkSp K ([(P_best_text, ("best_text.<locals>.<lambda>" : Str))] : Tbs) sp_row) := by
    apply can_l_row B F_l_row <;> first | assumption | exact c_SIGNS | exact c_DIGITS | exact c_DARK | exact c_MOST_BEATS | exact c_MOST_DEEP | exact c_LEAST_TIMES | exact c_MOST_TIMES
  have C_l_better : Can P w K mg base L2.CX0 1 "_law_better" ["_law_one", "_law_two"] (mkSp K ([(P_best_text, ("best_text.<locals>.<lambda>" : Str))] : Tbs) sp_better) := by
    apply can_l_better B F_l_better <;> first | assumption | exact c_SIGNS | exact c_DIGITS | exact c_DARK | exact c_MOST_BEATS | exact c_MOST_DEEP | exact c_LEAST_TIMES | exact c_MOST_TIMES
  have C_l_one_item : Can P w K mg base L2.CX0 2 "_law_one_item" ["_law_row_here", "_law_low", "_law_high", "_law_filled"] (mkSp K ([(P_best_text, ("best_text.<locals>.<lambda>" : Str))] : Tbs) sp_one_item) := by
    apply can_l_one_item B F_l_one_item <;> first | assumption | exact c_SIGNS | exact c_DIGITS | exact c_DARK | exact c_MOST_BEATS | exact c_MOST_DEEP | exact c_LEAST_TIMES | exact c_MOST_TIMES
  have C_l_table : Can P w K mg base L2.CX0 3 "_law_table" ["_law_row_here"] (mkSp K ([(P_best_text, ("best_text.<locals>.<lambda>" : Str))] : Tbs) sp_table) := by
    apply can_l_table B F_l_table <;> first | assumption | exact c_SIGNS | exact c_DIGITS | exact c_DARK | exact c_MOST_BEATS | exact c_MOST_DEEP | exact c_LEAST_TIMES | exact c_MOST_TIMES
  have C_l_told : Can P w K mg base L2.CX0 26 "_law_told" ["_law_kind", "_law_thing"] (mkSp K ([(P_best_text, ("best_text.<locals>.<lambda>" : Str))] : Tbs) sp_told) := by
    apply can_l_told B F_l_told <;> first | assumption | exact c_SIGNS | exact c_DIGITS | exact c_DARK | exact c_MOST_BEATS | exact c_MOST_DEEP | exact c_LEAST_TIMES | exact c_MOST_TIMES
  have C_l_bad_round : Can P w K mg base L2.CX0 3 "_law_bad_round" ["_law_draw_here", "_law_row_here"] (mkSp K ([(P_best_text, ("best_text.<locals>.<lambda>" : Str))] : Tbs) sp_bad_round) := by
    apply can_l_bad_round B F_l_bad_round <;> first | assumption | exact c_SIGNS | exact c_DIGITS | exact c_DARK | exact c_MOST_BEATS | exact c_MOST_DEEP | exact c_LEAST_TIMES | exact c_MOST_TIMES
  apply ok_law B (F := F) <;> first | assumption | exact c_SIGNS | exact c_DIGITS | exact c_DARK | exact c_MOST_BEATS | exact c_MOST_DEEP | exact c_LEAST_TIMES | exact c_MOST_TIMES
theorem law_at {l : PySem.W.OpenLaw} {w : World} {K : PySem.W.Frag} {mg : Str → Option Value} {fa c Pt : Addr} {fd : FuncData} {h : Heap} (hT : h.get? Pt = some { cls := .none, data := .fields #[] }) (nT : K.lookup Pt = none) (C : PySem.W.CodeHd h c Pt) (bl : ∀ (s : Shared) (u : Value), BindsTo s fd ⟨[u], []⟩ [("_law_script", u)])
    (F : ∀ base : Heap, K.In base → base.Ns mainGlobals mg → LamX.TabB base mg c Pt → FnOk l.prog w K mg base L2.CX0 27 fa fd ["_law_script"] (spLaw K [(Pt, ("best_text.<locals>.<lambda>" : Str))])) : LamX.LawAtS l w K L2.CX0 27 63 "_law_script" mg fa h := by
  have mem : ∀ p, p ∈ [(c, Pt)] → p = (c, Pt) := fun p hp => List.mem_singleton.mp hp
  refine ⟨fd, [(c, Pt)], spLaw K [(Pt, ("best_text.<locals>.<lambda>" : Str))], fun p hp => by rw [mem p hp]; exact hT, fun p hp => by rw [mem p hp]; exact nT, fun p hp => by rw [mem p hp]; exact C, bl, fun H a ns hl _ hH hS => ⟨a, ns, rfl, hS, hl, fun p hp => ?_, fun _ => rfl⟩, fun base h1 h2 h3 => F base h1 h2 (h3 _ (List.mem_singleton.mpr rfl))⟩
  rw [List.mem_singleton.mp hp]
  exact LamX.TabS.nil (hH (c, Pt) (List.mem_singleton.mpr rfl))
end
end Fk

set_option Elab.async false
set_option linter.all false
set_option maxRecDepth 100000
open PySem PySem.W PyProof.Rows
set_option maxHeartbeats 8000000 in
theorem PySem.Challenge.cw_falseglim_k06_whole_shortest_text_holds : PySem.Challenge.rw_falseglim_k06_whole_shortest_text.Holds := by
  w_on; o_law; k_head; (case hw => w_witness2)
  k_fill
  refine LamX.walk_ofTs (l := PySem.Challenge.rw_falseglim_k06_whole_shortest_text) (n := 63) (k := 27) (x := "_law_script") (CX := fun _ => L2.CX0) rfl (by decide) rfl ⟨rfl, by decide, by decide⟩ (fun w h Y => PySem.W.km_in_of Y) ?F (fun _ _ _ _ _ h => h)
  case F =>
    intro w mg fa h Y KX G hmg
    refine' Fg.bi_do KX G ?z0 ?z1 ?z2 ?z3 ?z4 ?z5 ?z6 ?z7 ?z8 ?z9 ?z10 ?z11 ?z12 ?z13 ?z14 ?z15 ?z16 ?z17 ?_
    (case z0 => k_is); (case z1 => k_is); (case z2 => k_is); (case z3 => k_is); (case z4 => k_is); (case z5 => k_is); (case z6 => k_is); (case z7 => k_is); (case z8 => k_is); (case z9 => k_is); (case z10 => k_is); (case z11 => k_is); (case z12 => k_is); (case z13 => k_is); (case z14 => k_is); (case z15 => k_is); (case z16 => k_is); (case z17 => k_is)
    intro B
    refine' Fg.defd_do KX G "is_sign" Fk.s_is_sign ["thing"] ?ais_sign ?lis_sign ?cis_sign ?kis_sign (fun _ _ _ _ _ _ us hl => match us, hl with | [_], _ => rfl) ?_
    (case ais_sign => k_is); (case lis_sign => k_is); (case cis_sign => k_is); (case kis_sign => k_is)
    intro F_is_sign
    refine' Fg.defd_do KX G "kept" Fk.s_kept ["beats", "row"] ?akept ?lkept ?ckept ?kkept (fun _ _ _ _ _ _ us hl => match us, hl with | [_, _], _ => rfl) ?_
    (case akept => k_is); (case lkept => k_is); (case ckept => k_is); (case kkept => k_is)
    intro F_kept
    refine' Fg.defd_do KX G "char_at" Fk.s_char_at ["text", "at"] ?achar_at ?lchar_at ?cchar_at ?kchar_at (fun _ _ _ _ _ _ us hl => match us, hl with | [_, _], _ => rfl) ?_
    (case achar_at => k_is); (case lchar_at => k_is); (case cchar_at => k_is); (case kchar_at => k_is)
    intro F_char_at
    refine' Fg.defd_do KX G "end_of_run" Fk.s_end_of_run ["text", "at"] ?aend_of_run ?lend_of_run ?cend_of_run ?kend_of_run (fun _ _ _ _ _ _ us hl => match us, hl with | [_, _], _ => rfl) ?_
    (case aend_of_run => k_is); (case lend_of_run => k_is); (case cend_of_run => k_is); (case kend_of_run => k_is)
    intro F_end_of_run
    refine' Fg.defd_do KX G "together" Fk.s_together ["beats", "row", "other_beats", "other"] ?atogether ?ltogether ?ctogether ?ktogether (fun _ _ _ _ _ _ us hl => match us, hl with | [_, _, _, _], _ => rfl) ?_
    (case atogether => k_is); (case ltogether => k_is); (case ctogether => k_is); (case ktogether => k_is)
    intro F_together
    refine' Fg.defd_do KX G "size_of_run" Fk.s_size_of_run ["text", "at", "end"] ?asize_of_run ?lsize_of_run ?csize_of_run ?ksize_of_run (fun _ _ _ _ _ _ us hl => match us, hl with | [_, _, _], _ => rfl) ?_
    (case asize_of_run => k_is); (case lsize_of_run => k_is); (case csize_of_run => k_is); (case ksize_of_run => k_is)
    intro F_size_of_run
    refine' Fg.defd_do KX G "read_whole" Fk.s_read_whole ["text", "at", "beats"] ?aread_whole ?lread_whole ?cread_whole ?kread_whole (fun _ _ _ _ _ _ us hl => match us, hl with | [_, _, _], _ => rfl) ?_
    (case aread_whole => k_is); (case lread_whole => k_is); (case cread_whole => k_is); (case kread_whole => k_is)
    intro F_read_whole
    refine' Fg.defd_do KX G "read_item" Fk.s_read_item ["text", "at", "deep"] ?aread_item ?lread_item ?cread_item ?kread_item (fun _ _ _ _ _ _ us hl => match us, hl with | [_, _, _], _ => rfl) ?_
    (case aread_item => k_is); (case lread_item => k_is); (case cread_item => k_is); (case kread_item => k_is)
    intro F_read_item
    refine' Fg.defd_do KX G "read_part" Fk.s_read_part ["text", "at", "deep"] ?aread_part ?lread_part ?cread_part ?kread_part (fun _ _ _ _ _ _ us hl => match us, hl with | [_, _, _], _ => rfl) ?_
    (case aread_part => k_is); (case lread_part => k_is); (case cread_part => k_is); (case kread_part => k_is)
    intro F_read_part
    refine' Fg.defd_do KX G "read_parts" Fk.s_read_parts ["text", "at", "deep"] ?aread_parts ?lread_parts ?cread_parts ?kread_parts (fun _ _ _ _ _ _ us hl => match us, hl with | [_, _, _], _ => rfl) ?_
    (case aread_parts => k_is); (case lread_parts => k_is); (case cread_parts => k_is); (case kread_parts => k_is)
    intro F_read_parts
    refine' Fg.defd_do KX G "read_round" Fk.s_read_round ["text"] ?aread_round ?lread_round ?cread_round ?kread_round (fun _ _ _ _ _ _ us hl => match us, hl with | [_], _ => rfl) ?_
    (case aread_round => k_is); (case lread_round => k_is); (case cread_round => k_is); (case kread_round => k_is)
    intro F_read_round
    refine' Fg.defd_do KX G "_law_mix" Fk.s_l_mix ["_law_cell", "_law_turn"] ?al_mix ?ll_mix ?cl_mix ?kl_mix (fun _ _ _ _ _ _ us hl => match us, hl with | [_, _], _ => rfl) ?_
    (case al_mix => k_is); (case ll_mix => k_is); (case cl_mix => k_is); (case kl_mix => k_is)
    intro F_mix
    refine' Fg.defd_do KX G "_law_draw" Fk.s_l_draw ["_law_script"] ?al_draw ?ll_draw ?cl_draw ?kl_draw (fun _ _ _ _ _ _ us hl => match us, hl with | [_], _ => rfl) ?_
    (case al_draw => k_is); (case ll_draw => k_is); (case cl_draw => k_is); (case kl_draw => k_is)
    intro F_draw
    refine' Fg.defd_do KX G "_law_pick" Fk.s_l_pick ["_law_draw_here", "_law_many"] ?al_pick ?ll_pick ?cl_pick ?kl_pick (fun _ _ _ _ _ _ us hl => match us, hl with | [_, _], _ => rfl) ?_
    (case al_pick => k_is); (case ll_pick => k_is); (case cl_pick => k_is); (case kl_pick => k_is)
    intro F_pick
    refine' Fg.defd_do KX G "wrong_sign" Fk.s_wrong_sign ["text"] ?awrong_sign ?lwrong_sign ?cwrong_sign ?kwrong_sign (fun _ _ _ _ _ _ us hl => match us, hl with | [_], _ => rfl) ?_
    (case awrong_sign => k_is); (case lwrong_sign => k_is); (case cwrong_sign => k_is); (case kwrong_sign => k_is)
    intro F_wrong_sign
    refine' Fg.defd_do KX G "check_round" Fk.s_check_round ["row"] ?acheck_round ?lcheck_round ?ccheck_round ?kcheck_round (fun _ _ _ _ _ _ us hl => match us, hl with | [_], _ => rfl) ?_
    (case acheck_round => k_is); (case lcheck_round => k_is); (case ccheck_round => k_is); (case kcheck_round => k_is)
    intro F_check_round
    refine' Fg.defd_do KX G "item_texts" Fk.s_item_texts ["piece", "texts"] ?aitem_texts ?litem_texts ?citem_texts ?kitem_texts (fun _ _ _ _ _ _ us hl => match us, hl with | [_, _], _ => rfl) ?_
    (case aitem_texts => k_is); (case litem_texts => k_is); (case citem_texts => k_is); (case kitem_texts => k_is)
    intro F_item_texts
    refine' Pu.defdc_do KX G "best_text" Fk.s_best_text ["piece", "texts"] ?abest_text ?lbest_text ?cbest_text ?kbest_text (fun _ _ _ _ _ _ us hl => match us, hl with | [_, _], _ => rfl) ?_
    (case abest_text => k_is); (case lbest_text => k_is); (case cbest_text => k_is); (case kbest_text => k_is)
    intro F_best_text
    refine' Fg.defd_do KX G "fold_round" Fk.s_fold_round ["row"] ?afold_round ?lfold_round ?cfold_round ?kfold_round (fun _ _ _ _ _ _ us hl => match us, hl with | [_], _ => rfl) ?_
    (case afold_round => k_is); (case lfold_round => k_is); (case cfold_round => k_is); (case kfold_round => k_is)
    intro F_fold_round
    refine' Fg.defd_do KX G "_law_is_int" Fk.s_l_is_int ["_law_thing"] ?al_is_int ?ll_is_int ?cl_is_int ?kl_is_int (fun _ _ _ _ _ _ us hl => match us, hl with | [_], _ => rfl) ?_
    (case al_is_int => k_is); (case ll_is_int => k_is); (case cl_is_int => k_is); (case kl_is_int => k_is)
    intro F_l_is_int
    refine' Fg.defd_do KX G "_law_sign" Fk.s_l_sign ["_law_draw_here"] ?al_sign ?ll_sign ?cl_sign ?kl_sign (fun _ _ _ _ _ _ us hl => match us, hl with | [_], _ => rfl) ?_
    (case al_sign => k_is); (case ll_sign => k_is); (case cl_sign => k_is); (case kl_sign => k_is)
    intro F_l_sign
    refine' Fg.defd_do KX G "_law_round" Fk.s_l_round ["_law_draw_here", "_law_most"] ?al_round ?ll_round ?cl_round ?kl_round (fun _ _ _ _ _ _ us hl => match us, hl with | [_, _], _ => rfl) ?_
    (case al_round => k_is); (case ll_round => k_is); (case cl_round => k_is); (case kl_round => k_is)
    intro F_l_round
    refine' Fg.defd_do KX G "_law_bent" Fk.s_l_bent ["_law_draw_here", "_law_row_here"] ?al_bent ?ll_bent ?cl_bent ?kl_bent (fun _ _ _ _ _ _ us hl => match us, hl with | [_, _], _ => rfl) ?_
    (case al_bent => k_is); (case ll_bent => k_is); (case cl_bent => k_is); (case kl_bent => k_is)
    intro F_l_bent
    refine' Fg.defd_do KX G "_law_row" Fk.s_l_row ["_law_draw_here"] ?al_row ?ll_row ?cl_row ?kl_row (fun _ _ _ _ _ _ us hl => match us, hl with | [_], _ => rfl) ?_
    (case al_row => k_is); (case ll_row => k_is); (case cl_row => k_is); (case kl_row => k_is)
    intro F_l_row
    refine' Fg.defd_do KX G "_law_better" Fk.s_l_better ["_law_one", "_law_two"] ?al_better ?ll_better ?cl_better ?kl_better (fun _ _ _ _ _ _ us hl => match us, hl with | [_, _], _ => rfl) ?_
    (case al_better => k_is); (case ll_better => k_is); (case cl_better => k_is); (case kl_better => k_is)
    intro F_l_better
    refine' Fg.defd_do KX G "_law_one_item" Fk.s_l_one_item ["_law_row_here", "_law_low", "_law_high", "_law_filled"] ?al_one_item ?ll_one_item ?cl_one_item ?kl_one_item (fun _ _ _ _ _ _ us hl => match us, hl with | [_, _, _, _], _ => rfl) ?_
    (case al_one_item => k_is); (case ll_one_item => k_is); (case cl_one_item => k_is); (case kl_one_item => k_is)
    intro F_l_one_item
    refine' Fg.defd_do KX G "_law_table" Fk.s_l_table ["_law_row_here"] ?al_table ?ll_table ?cl_table ?kl_table (fun _ _ _ _ _ _ us hl => match us, hl with | [_], _ => rfl) ?_
    (case al_table => k_is); (case ll_table => k_is); (case cl_table => k_is); (case kl_table => k_is)
    intro F_l_table
    refine' Fg.defd_do KX G "_law_told" Fk.s_l_told ["_law_kind", "_law_thing"] ?al_told ?ll_told ?cl_told ?kl_told (fun _ _ _ _ _ _ us hl => match us, hl with | [_, _], _ => rfl) ?_
    (case al_told => k_is); (case ll_told => k_is); (case cl_told => k_is); (case kl_told => k_is)
    intro F_l_told
    refine' Fg.defd_do KX G "_law_bad_round" Fk.s_l_bad_round ["_law_draw_here", "_law_row_here"] ?al_bad_round ?ll_bad_round ?cl_bad_round ?kl_bad_round (fun _ _ _ _ _ _ us hl => match us, hl with | [_, _], _ => rfl) ?_
    (case al_bad_round => k_is); (case ll_bad_round => k_is); (case cl_bad_round => k_is); (case kl_bad_round => k_is)
    intro F_l_bad_round
    refine' Fg.lawd_do KX G "law" Fk.s_law "_law_script" ?alaw ?llaw ?claw ?klaw (fun _ _ _ _ _ _ us hl => match us, hl with | [_], _ => rfl) ?_
    (case alaw => k_is); (case llaw => k_is); (case claw => k_is); (case klaw => k_is)
    intro fl fdl bl Fl gl
    refine' Fg.errc_do KX "BadRound" "BadRound.__init__" "number" (L2.inClass (Fk.topS 3) 0) ["self", "number"] ?a1BadRound ?a2BadRound ?a4BadRound ?a5BadRound ?a6BadRound ?a7BadRound ?a8BadRound ?a9BadRound ?b1BadRound ?b2BadRound ?b3BadRound ?b4BadRound ?b5BadRound ?b6BadRound ?b7BadRound ?b8BadRound ?b9BadRound ?c1BadRound ?c2BadRound (fun _ _ _ _ _ _ us hl => match us, hl with | [_, _], _ => rfl) ?a3BadRound ?_
    (case a1BadRound => k_is); (case a2BadRound => k_is); (case a4BadRound => k_is); (case a5BadRound => k_is); (case a6BadRound => k_is); (case a7BadRound => k_is); (case a8BadRound => k_is); (case a9BadRound => k_is); (case b1BadRound => k_is); (case b2BadRound => k_is); (case b3BadRound => k_is); (case b4BadRound => k_is); (case b5BadRound => k_is); (case b6BadRound => k_is); (case b7BadRound => k_is); (case b8BadRound => k_is); (case b9BadRound => k_is); (case c1BadRound => k_is); (case c2BadRound => k_is); (case a3BadRound => decide +kernel)
    intro X_BadRound
    refine' Fg.errc_do KX "BadText" "BadText.__init__" "at" (L2.inClass (Fk.topS 4) 0) ["self", "at"] ?a1BadText ?a2BadText ?a4BadText ?a5BadText ?a6BadText ?a7BadText ?a8BadText ?a9BadText ?b1BadText ?b2BadText ?b3BadText ?b4BadText ?b5BadText ?b6BadText ?b7BadText ?b8BadText ?b9BadText ?c1BadText ?c2BadText (fun _ _ _ _ _ _ us hl => match us, hl with | [_, _], _ => rfl) ?a3BadText ?_
    (case a1BadText => k_is); (case a2BadText => k_is); (case a4BadText => k_is); (case a5BadText => k_is); (case a6BadText => k_is); (case a7BadText => k_is); (case a8BadText => k_is); (case a9BadText => k_is); (case b1BadText => k_is); (case b2BadText => k_is); (case b3BadText => k_is); (case b4BadText => k_is); (case b5BadText => k_is); (case b6BadText => k_is); (case b7BadText => k_is); (case b8BadText => k_is); (case b9BadText => k_is); (case c1BadText => k_is); (case c2BadText => k_is); (case a3BadText => decide +kernel)
    intro X_BadText
    refine' Fg.errc_do KX "TooLong" "TooLong.__init__" "number" (L2.inClass (Fk.topS 5) 0) ["self", "number"] ?a1TooLong ?a2TooLong ?a4TooLong ?a5TooLong ?a6TooLong ?a7TooLong ?a8TooLong ?a9TooLong ?b1TooLong ?b2TooLong ?b3TooLong ?b4TooLong ?b5TooLong ?b6TooLong ?b7TooLong ?b8TooLong ?b9TooLong ?c1TooLong ?c2TooLong (fun _ _ _ _ _ _ us hl => match us, hl with | [_, _], _ => rfl) ?a3TooLong ?_
    (case a1TooLong => k_is); (case a2TooLong => k_is); (case a4TooLong => k_is); (case a5TooLong => k_is); (case a6TooLong => k_is); (case a7TooLong => k_is); (case a8TooLong => k_is); (case a9TooLong => k_is); (case b1TooLong => k_is); (case b2TooLong => k_is); (case b3TooLong => k_is); (case b4TooLong => k_is); (case b5TooLong => k_is); (case b6TooLong => k_is); (case b7TooLong => k_is); (case b8TooLong => k_is); (case b9TooLong => k_is); (case c1TooLong => k_is); (case c2TooLong => k_is); (case a3TooLong => decide +kernel)
    intro X_TooLong
    refine' Fg.glob_do KX G "GlimError" ?agGlimError ?_
    (case agGlimError => k_is)
    intro g_GlimError
    refine' Fg.glob_do KX G "SIGNS" ?agSIGNS ?_
    (case agSIGNS => k_is)
    intro g_SIGNS
    refine' Fg.glob_do KX G "DIGITS" ?agDIGITS ?_
    (case agDIGITS => k_is)
    intro g_DIGITS
    refine' Fg.glob_do KX G "DARK" ?agDARK ?_
    (case agDARK => k_is)
    intro g_DARK
    refine' Fg.glob_do KX G "MOST_BEATS" ?agMOST_BEATS ?_
    (case agMOST_BEATS => k_is)
    intro g_MOST_BEATS
    refine' Fg.glob_do KX G "MOST_DEEP" ?agMOST_DEEP ?_
    (case agMOST_DEEP => k_is)
    intro g_MOST_DEEP
    refine' Fg.glob_do KX G "LEAST_TIMES" ?agLEAST_TIMES ?_
    (case agLEAST_TIMES => k_is)
    intro g_LEAST_TIMES
    refine' Fg.glob_do KX G "MOST_TIMES" ?agMOST_TIMES ?_
    (case agMOST_TIMES => k_is)
    intro g_MOST_TIMES
    refine' Fg.glob_do KX G "lcm" ?aglcm ?_
    (case aglcm => k_is)
    intro g_lcm
    refine' Fk.bad_do X_BadRound X_BadText g_GlimError ?th1 ?th2 ?th3 ?th4 ?tk1 ?tk2 ?tk3 ?_
    (case th1 => k_is); (case th2 => k_is); (case th3 => k_is); (case th4 => k_is); (case tk1 => kit_is); (case tk2 => kit_is); (case tk3 => kit_is)
    intro xm k1 k2 k3
    have el := hmg.symm.trans gl
    cases el
    refine Fk.law_at (PySem.W.km_tabs_of Y _ (.head _)) ?nT (PySem.W.codeHd_of_K KX ?C) bl fun base _ _ TBx => Fk.law_all B F_is_sign F_kept F_char_at F_end_of_run F_together F_size_of_run F_read_whole F_read_item F_read_part F_read_parts F_read_round F_mix F_draw F_pick F_wrong_sign F_check_round F_item_texts F_best_text TBx F_fold_round F_l_is_int F_l_sign F_l_round F_l_bent F_l_row F_l_better F_l_one_item F_l_table F_l_told F_l_bad_round (Fg.err_mk KX G X_BadRound fun fI fd F => Fk.ok_init_BadRound X_BadRound.o X_BadRound.noN F) (Fg.err_mk KX G X_BadText fun fI fd F => Fk.ok_init_BadText X_BadText.o X_BadText.noN F) (Fg.err_mk KX G X_TooLong fun fI fd F => Fk.ok_init_TooLong X_TooLong.o X_TooLong.noN F) g_GlimError xm k1 k2 k3 ⟨_, g_SIGNS, Fk.rel_lit (by decide +kernel)⟩ ⟨_, g_DIGITS, Fk.rel_lit (by decide +kernel)⟩ ⟨_, g_DARK, Fk.rel_lit (by decide +kernel)⟩ ⟨_, g_MOST_BEATS, _, rfl⟩ ⟨_, g_MOST_DEEP, _, rfl⟩ ⟨_, g_LEAST_TIMES, _, rfl⟩ ⟨_, g_MOST_TIMES, _, rfl⟩ g_lcm Fl
    (case nT => first | rfl | with_unfolding_all rfl); (case C => first | rfl | with_unfolding_all rfl)

import PyProof.Rows.All
import Wide.All
import OpenK.AllK
import Wide.FinOn
import PyProof.EqAt
import PyProof.EqKinds
import PyProof.TupleCall
import HandS.ForMost
import HandS.ForExc
import HandS.IsInst
import HandS.Conv
import HandS.Wide
import HandS.ExcInit
import HandS.ExcField
import HandS.ExcIs
import HandS.EndBits
import HandS.Evl
import HandS.Codes
import HandS.Steps
import KE.DataMinMax
import KE.KIsAll
import KE.KTryMore
import HandS.Gcd
import HandS.Text
import KE.IntText
import PySem.Challenge.RW_falseglim_k08_whole_parted_rounds
set_option Elab.async false
set_option linter.all false
set_option maxRecDepth 100000
set_option maxHeartbeats 4000000
namespace Fg
open PySem PySem.Spec PyProof.Rows L2

/-! ### texts as lists of signs -/
def S (l : List Nat) : Str := ⟨l.toArray⟩
theorem S_len (l : List Nat) : (S l).length = l.length := by
  show l.toArray.size = l.length
  simp
theorem S_app (l m : List Nat) : S l ++ S m = S (l ++ m) := by
  show Str.append (S l) (S m) = S (l ++ m)
  unfold Str.append S
  simp
theorem S_cps (l : List Nat) : (S l).cps.toList = l := by simp [S]
theorem S_inj {l m : List Nat} (h : S l = S m) : l = m := by
  have h2 := congrArg (fun z : Str => z.cps.toList) h
  simpa [S_cps] using h2
theorem S_eq {l m : List Nat} : (S l = S m) ↔ l = m := ⟨S_inj, fun h => by rw [h]⟩
theorem S_of (z : Str) : ∃ l, z = S l := ⟨z.cps.toList, by cases z; simp [S]⟩
def cutL (l : List Nat) (lo hi : Option Int) : List Nat := (l.drop (HT.sIx l.length 0 lo)).take (HT.sIx l.length l.length hi - HT.sIx l.length 0 lo)
theorem S_cut (l : List Nat) (lo hi : Option Int) : cutS (S l) lo hi = S (cutL l lo hi) := by
  unfold cutS cutL
  rw [S_len, S_cps]
  rfl
theorem sIx_pos {n d : Nat} {i : Int} (h : 0 ≤ i) : HT.sIx n d (some i) = min i.toNat n := by
  show (if i < 0 then (i + (n : Int)).toNat else min i.toNat n) = _
  rw [if_neg (by omega)]
theorem cut_from {l : List Nat} {i : Int} (h : 0 ≤ i) : cutL l (some i) none = l.drop i.toNat := by
  unfold cutL
  rw [sIx_pos h, HT.sIx_none]
  by_cases h2 : i.toNat ≤ l.length
  · rw [Nat.min_eq_left h2]
    apply List.take_of_length_le
    rw [List.length_drop]
    omega
  · rw [Nat.min_eq_right (by omega), List.drop_eq_nil_of_le (by omega), List.drop_eq_nil_of_le (by omega), List.take_nil]
theorem cut_to {l : List Nat} {i : Int} (h : 0 ≤ i) : cutL l none (some i) = l.take i.toNat := by
  unfold cutL
  rw [sIx_pos h, HT.sIx_none]
  show List.take (min i.toNat l.length - 0) (List.drop 0 l) = _
  rw [List.drop_zero, Nat.sub_zero]
  by_cases h2 : i.toNat ≤ l.length
  · rw [Nat.min_eq_left h2]
  · rw [Nat.min_eq_right (by omega), List.take_of_length_le (Nat.le_refl _), List.take_of_length_le (by omega)]

/-! ### operations by signs -/
def rCatS : R2 := fun x y H Q => ∃ i j, x = .str (S i) ∧ y = .str (S j) ∧ i.length + j.length ≤ sizeLine ∧ Q (.str (S (i ++ j))) H
def rSlSS : V → Option Int → Option Int → Hp → VK → Prop := fun x lo hi H Q => ∃ l, x = .str (S l) ∧ l.length ≤ sizeLine ∧ Q (.str (S (cutL l lo hi))) H
def rIxSS : R2 := fun x y H Q => ∃ l i c, x = .str (S l) ∧ y = .int i ∧ l.length ≤ sizeLine ∧ atI l i = some c ∧ Q (.str (S [c])) H
def rNiS : R2 := fun x y H Q => ∃ (c : Nat) (l : List Nat), x = .str (S [c]) ∧ y = .str (S l) ∧ Q (.bl (!decide (c ∈ l))) H
def rInSS : R2 := fun x y H Q => ∃ (c : Nat) (l : List Nat), x = .str (S [c]) ∧ y = .str (S l) ∧ Q (.bl (decide (c ∈ l))) H
def rRepS : R2 := fun x y H Q => ∃ l k, x = .str (S l) ∧ y = .int k ∧ 0 ≤ k ∧ k < 2 ^ 62 ∧ l.length * k.toNat ≤ sizeLine ∧ Q (.str (S (List.replicate k.toNat l).flatten)) H
def CPowW (i j : Int) : Prop := 0 ≤ j ∧ (Builtin.Int.intBits i : Int) * j ≤ 2 ^ 27
def rLenS : List V → Hp → VK → Prop := fun xs H Q => ∃ l, xs = [.str (S l)] ∧ l.length ≤ sizeLine ∧ Q (.int l.length) H
def rLenQ (K : PySem.W.Frag) : List V → Hp → VK → Prop := fun xs H Q => ∃ p ys, xs = [.ref p] ∧ (SqL K H p ys ∨ SqT K H p ys) ∧ Q (.int ys.length) H
def rJoinS (K : PySem.W.Frag) : V → List V → Hp → VK → Prop := fun x xs H Q => ∃ a p, ∃ ys : List (List Nat), x = .str (S a) ∧ xs = [.ref p] ∧ (SqL K H p (ys.map fun l => V.str (S l)) ∨ SqT K H p (ys.map fun l => V.str (S l))) ∧
  (ys.map (·.length)).sum + ys.length * a.length ≤ 16777216 ∧ Q (.str (S (TL.joinL a ys))) H
section
variable {X : Cx}
theorem op_catS : OpR X (binaryOp .Add) rCatS := by
  intro pins s σ H x y v u Q I rx ry h
  obtain ⟨i, j, rfl, rfl, hl, q⟩ := h
  exact op_add_str pins s σ H _ _ v u Q I rx ry ⟨_, _, rfl, rfl, by rw [S_len, S_len]; exact hl, by rw [S_app]; exact q⟩
theorem sl_strS : SlR X rSlSS := by
  intro pins s σ H x v vl vu lo hi sl Q I rx hs pl pu h
  obtain ⟨l, rfl, hl, q⟩ := h
  exact sl_str pins s σ H _ v vl vu lo hi sl Q I rx hs pl pu ⟨_, rfl, by rw [S_len]; exact hl, by rw [S_cut]; exact q⟩
theorem ix_strS : IxR X rIxSS := by
  intro value slice pins s σ H x y v u Q I rx ry h hs
  obtain ⟨l, i, c, rfl, rfl, hl, ha, q⟩ := h
  exact ix_str value slice pins s σ H _ _ v u Q I rx ry ⟨_, _, c, rfl, rfl, by rw [S_len]; exact hl, by rw [S_cps]; exact ha, q⟩ hs
theorem op_niS : OpR X (compareOp .NotIn) rNiS := by
  intro pins s σ H x y v u Q I rx ry h
  obtain ⟨c, l, rfl, rfl, q⟩ := h
  exact op_notIn_sign pins s σ H _ _ v u Q I rx ry ⟨c, _, rfl, rfl, by rw [S_cps]; exact q⟩
theorem op_inSS : OpR X (compareOp .In) rInSS := by
  intro pins s σ H x y v u Q I rx ry h
  obtain ⟨c, l, rfl, rfl, q⟩ := h
  exact op_in_sign pins s σ H _ _ v u Q I rx ry ⟨c, _, rfl, rfl, by rw [S_cps]; exact q⟩
theorem op_powW : OpR X (binaryOp .Pow) (rI CPowW fun i j => .int (i ^ j.toNat)) := opI fun _ _ _ _ _ _ _ hc q => pow_int hc.1 hc.2 q
theorem call_lenS : CallR X (.builtin "len") rLenS := by
  intro pins s σ H xs us Q I r h
  obtain ⟨l, rfl, hl, q⟩ := h
  exact call_len pins s σ H _ us Q I r ⟨_, _, rfl, ⟨by rw [S_len]; exact hl, rfl⟩, by rw [S_len]; exact q⟩
theorem call_lenQ : CallR X (.builtin "len") (rLenQ X.K) := call_len_seq
theorem flat_arr (a : Array Nat) : ∀ (k : Nat) (acc : List Nat), (List.replicate k a).foldl (· ++ ·) acc.toArray = (acc ++ (List.replicate k a.toList).flatten).toArray
  | 0, acc => by simp
  | k + 1, acc => by
    rw [List.replicate_succ, List.foldl_cons]
    have e : acc.toArray ++ a = (acc ++ a.toList).toArray := by simp
    rw [e, flat_arr a k, List.replicate_succ]
    simp [List.append_assoc]
theorem op_repS : OpR X (binaryOp .Mult) rRepS := by
  intro pins s σ H x y v u Q I rx ry h
  obtain ⟨l, k, rfl, rfl, h0, h1, hz, q⟩ := h
  obtain ⟨t, rfl⟩ := rx
  obtain ⟨t2, rfl⟩ := ry
  have hs : sizeLine = 16777216 := sizeLine_eq
  have eL : (S l).length = l.length := S_len l
  have hlen : l.length ≤ 16777216 ∨ k < 1 := by
    by_cases hk : k < 1
    · exact .inr hk
    · left
      have : 1 ≤ k.toNat := by omega
      have := Nat.mul_le_mul_left l.length this
      omega
  refine PySem.P.mul_str (by
      have h2 : ¬ k ≥ 2 ^ 63 := by omega
      have h3 : ¬ k < -(2 ^ 63 : Int) := by omega
      rw [decide_eq_false h3, decide_eq_false h2]; rfl) (fun hk hx => ?_) (fun hk hx => ?_) ?_
  · rw [eL]
    have hl2 : l.length ≤ 16777216 := by omega
    have hk1 : 1 ≤ k := by omega
    have hm : (l.length : Int) * k ≤ 16777216 := by
      have e1 : ((l.length * k.toNat : Nat) : Int) = (l.length : Int) * k := by
        rw [Int.natCast_mul, Int.toNat_of_nonneg h0]
      have : ((l.length * k.toNat : Nat) : Int) ≤ 16777216 := by omega
      omega
    have h4 : (l.length : Int) ≤ (2 ^ 63 - 1) / k := by
      rw [Int.le_ediv_iff_mul_le (by omega)]
      omega
    omega
  · rw [eL]
    have : l.length * k.toNat ≤ 16777216 := by omega
    exact PyProof.Rows.short24 (by omega)
  · by_cases hk : k < 1
    · rw [if_pos hk]
      have ek : k.toNat = 0 := by omega
      rw [ek] at q
      exact ⟨by decide, ⟨.str (S []), H, I.tok _, ⟨_, rfl⟩, q⟩⟩
    · rw [if_neg hk]
      by_cases hx : (k == 1 || (S l).length == 0) = true
      · rw [if_pos hx]
        have e : (List.replicate k.toNat l).flatten = l := by
          rw [eL] at hx
          rcases (Bool.or_eq_true _ _).mp hx with h5 | h5
          · have : k = 1 := by simpa using h5
            subst this
            simp
          · have : l = [] := by
              have := by simpa using h5
              exact this
            subst this
            simp
        rw [e] at q
        exact ⟨.str (S l), H, I, ⟨_, rfl⟩, q⟩
      · rw [if_neg hx]
        have e : (⟨(List.replicate k.toNat (S l).cps).foldl (· ++ ·) #[]⟩ : Str) = S (List.replicate k.toNat l).flatten := by
          have := flat_arr (S l).cps k.toNat []
          rw [S_cps] at this
          unfold S at this ⊢
          simp only [List.nil_append] at this
          rw [← this]
        rw [e]
        refine ⟨?_, ⟨.str (S (List.replicate k.toNat l).flatten), H, I.tok _, ⟨_, rfl⟩, q⟩⟩
        rw [S_len, List.length_flatten, List.map_replicate, List.sum_replicate_nat]
        rw [Nat.mul_comm]
        exact hz
theorem op_repS' : OpR X (binaryOp .Mult) rRepS := op_repS
theorem mt_joinS : MtR X "str.join" (rJoinS X.K) := by
  intro pins s σ H x xs v us Q I rx rs h
  obtain ⟨a, p, ys, rfl, rfl, hp, hz, h⟩ := h
  have e1 : ys.map (fun l => V.str (S l)) = (ys.map SX.S).map V.str := by
    rw [List.map_map]; rfl
  have e2 : S (TL.joinL a ys) = Txt.join (SX.S a) (ys.map SX.S) := (SX.join_S a ys).symm
  rw [e1] at hp
  rw [e2] at h
  refine mt_join pins s σ H _ _ v us Q I rx rs ⟨SX.S a, p, ys.map SX.S, rfl, rfl, hp, ?_, h⟩
  rw [SX.lens, List.length_map, SX.S_len]
  exact hz
/-- min(xs), xs a list of texts -/
def rMinS (K : PySem.W.Frag) : List V → Hp → VK → Prop := fun vs H Q => ∃ (a : Addr) (ls : List (List Nat)), vs = [.ref a] ∧ SqL K H a (ls.map fun l => V.str (S l)) ∧ ls ≠ [] ∧
  ∀ m ∈ ls, (∀ y ∈ ls, ¬ y < m) → Q (.str (S m)) H
theorem dp_strs {K : PySem.W.Frag} {H : Hp} : ∀ ls : List (List Nat), DpAll K H (ls.map fun l => V.str (S l)) (ls.map fun l => PyData.str (S l))
  | [] => .nil
  | l :: r => .cons (.str _) (dp_strs r)
theorem minD_strs : ∀ (r : List (List Nat)) (m : List Nat), ∃ z, (z = m ∨ z ∈ r) ∧ (∀ y, y = m ∨ y ∈ r → ¬ y < z) ∧ (r.map fun l => PyData.str (S l)).foldl (fun a y => if PySem.W.dataLt y a then y else a) (.str (S m)) = .str (S z)
  | [], m => ⟨m, .inl rfl, (fun y hy => by
      rcases hy with rfl | hy
      · exact List.lt_irrefl _
      · cases hy), rfl⟩
  | y :: r, m => by
    rw [List.map_cons, List.foldl_cons, PySem.W.dataLt_str, S_cps, S_cps]
    by_cases h : y < m
    · rw [if_pos (decide_eq_true h)]
      obtain ⟨z, h1, h2, h3⟩ := minD_strs r y
      refine ⟨z, ?_, fun x hx => ?_, h3⟩
      · rcases h1 with h1 | h1
        · exact .inr (by rw [h1]; exact List.mem_cons_self ..)
        · exact .inr (List.mem_cons_of_mem _ h1)
      · rcases hx with rfl | hx
        · intro hlt
          exact h2 y (.inl rfl) (List.lt_trans h hlt)
        · rcases List.mem_cons.mp hx with rfl | hx
          · exact h2 _ (.inl rfl)
          · exact h2 _ (.inr hx)
    · rw [if_neg (by rw [decide_eq_false h]; decide)]
      obtain ⟨z, h1, h2, h3⟩ := minD_strs r m
      refine ⟨z, ?_, fun x hx => ?_, h3⟩
      · rcases h1 with h1 | h1
        · exact .inl h1
        · exact .inr (List.mem_cons_of_mem _ h1)
      · rcases hx with rfl | hx
        · exact h2 _ (.inl rfl)
        · rcases List.mem_cons.mp hx with rfl | hx
          · intro hlt
            have h4 := h2 m (.inl rfl)
            -- x < z, not m > x.. : z ≤ m ≤ x
            have h5 : z ≤ m := List.not_lt.mp h4
            have h6 : m ≤ x := List.not_lt.mp h
            exact absurd hlt (List.not_lt.mpr (List.le_trans h5 h6))
          · exact h2 _ (.inr hx)
theorem cr_minS (hc : X.calm = true) (hu : X.A.units + 64 < cLine) : CallR X (.builtin "min") (rMinS X.K) := by
  intro pins s σ H vs us Q I r h
  obtain ⟨a, ls, rfl, hs, hne, q⟩ := h
  obtain ⟨its, rv, hl, _⟩ := I.list hs
  rw [Vals.ref1 r]
  cases ls with
  | nil => exact absurd rfl hne
  | cons m r =>
    obtain ⟨as, hr⟩ := Dp.readsAll I _ _ _ (dp_strs (K := X.K) (H := H) (m :: r)) rv
    obtain ⟨z, h1, h2, h3⟩ := minD_strs r m
    have hd : ∀ ys : List (List Nat), PyData.depthAll (ys.map fun l => PyData.str (S l)) ≤ 1 := by
      intro ys
      induction ys with
      | nil => exact Nat.zero_le _
      | cons y ys ih => exact Nat.max_le.mpr ⟨by show PyData.depth (.str (S y)) ≤ 1; simp [PyData.depth], ih⟩
    refine PySem.W.min_list_data (I.ok.hd hc) (vs := its.toArray) hl.isList (by rw [List.toList_toArray]; exact hr) ?_ ?_ fun i v h' tk bs hv hb k => ?_
    · constructor
      · intro x hx y hy
        have hx' : x ∈ (m :: r).map fun l => PyData.str (S l) := hx
        have hy' : y ∈ (m :: r).map fun l => PyData.str (S l) := hy
        obtain ⟨p, _, rfl⟩ := List.mem_map.mp hx'
        obtain ⟨p2, _, rfl⟩ := List.mem_map.mp hy'
        rfl
      · intro x hx e
        have hx' : x ∈ (m :: r).map fun l => PyData.str (S l) := hx
        obtain ⟨p, _, rfl⟩ := List.mem_map.mp hx'
        cases e
    · have h9 : PyData.depthAll ((fun l => PyData.str (S l)) m :: List.map (fun l => PyData.str (S l)) r) ≤ 1 := hd (m :: r)
      omega
    · have e : PySem.W.minD (.str (S m)) (r.map fun l => PyData.str (S l)) = .str (S z) := h3
      rw [e] at hb
      cases hb
      refine ⟨.str (S z), H, I.kept k, ⟨_, rfl⟩, q z ?_ ?_⟩
      · rcases h1 with h1 | h1
        · rw [h1]; exact List.mem_cons_self ..
        · exact List.mem_cons_of_mem _ h1
      · intro y hy
        rcases List.mem_cons.mp hy with rfl | hy
        · exact h2 _ (.inl rfl)
        · exact h2 _ (.inr hy)
/-! ### enumerate(text) -/
def Iten (x : Str) : It :=
  ⟨fun i _ => i < x.cps.size, fun i H v H' => ∃ T c, v = .ref T ∧ H T = none ∧ H' = upd H T (.tup [.int (i : Nat), .str ⟨#[c]⟩]) ∧ x.cps[i]? = some c, fun i _ => x.cps.size ≤ i⟩
theorem turn_enumS {P : Program} {w : World} {K : PySem.W.Frag} {elts : List Expr} {kk : Nat} {tpos : Pos} (e it : Addr) (x : Str) (t : Tok) (ty : String) (hty : ty = "str_ascii_iterator" ∨ ty = "str_iterator") :
    Turn P w K (.Tuple elts kk tpos) (Iten x) [e, it] e (fun i h => (∃ old, IsEnum h e it ((i : Nat) : Int) old) ∧ h.IsStrIter it ty x t i ∧ e ≠ it ∧ i ≤ x.cps.size) where
  mem := by simp
  obj := fun i h st b hb => by
    obtain ⟨⟨old, he⟩, ⟨o, ho, hc, hd⟩, _⟩ := st
    have e' : b = e ∨ b = it := by simpa using hb
    rcases e' with z | z
    · rw [z]; exact ⟨_, he, fun v q => nomatch q⟩
    · rw [z]; exact ⟨o, ho, fun v q => by rw [hd] at q; cases q⟩
  keep := fun i h h' st k => let ⟨⟨old, he⟩, ⟨o, ho, r⟩, hne, hle⟩ := st; ⟨⟨old, k e (by simp) _ he⟩, ⟨o, k it (by simp) o ho, r⟩, hne, hle⟩
  item := by
    intro X hP hw hK hc i pins s σ H E I hf st hg
    subst hP hw hK
    obtain ⟨⟨old, he⟩, hit, hne, hle⟩ := st
    have hi : i < x.cps.size := hg
    have hel : e < s.heap.objs.size := Heap.lt_size he
    have hil : it < s.heap.objs.size := by obtain ⟨_, q, _⟩ := hit; exact Heap.lt_size q
    have D : Draws X.prog X.w X.A.in1 it [it] x.cps.size (fun i v => ∃ c u, x.cps[i]? = some c ∧ v = .str ⟨#[c]⟩ u) (fun i h => h.IsStrIter it ty x t i) := by
      rcases hty with e1 | e1
      · rw [e1]; exact Draws.strAscii (A := X.A.in1) (I.ok.hd hc) it x t
      · rw [e1]; exact Draws.strWide (A := X.A.in1) (I.ok.hd hc) it x t
    refine wpAny_pyNext_enum_itemD D he hit hi hne (by simpa using hne) fun u h' tk hv ho hit' hT hsz hk => ?_
    obtain ⟨c, u0, hc0, rfl⟩ := hv
    refine ⟨_, rfl, wpAny_letOwnedTupleGo_enum (s := { s with heap := h', toks := tk + 1 }) ho fun h'' he' sb => ?_⟩
    have hT2 : h''.get? s.heap.objs.size = some { cls := .type "tuple", data := .seq #[.int i tk, .str ⟨#[c]⟩ u0] } := (sb.2 _ (Nat.ne_of_gt hel)).trans hT
    have new : ObjOk X.prog X.w (upd H s.heap.objs.size (.tup [.int (i : Nat), .str ⟨#[c]⟩])) h'' s.heap.objs.size (.tup [.int (i : Nat), .str ⟨#[c]⟩]) :=
      ⟨by show 2 ≤ sizeLine; decide, [.int i tk, .str ⟨#[c]⟩ u0], .cons ⟨_, rfl⟩ (.cons ⟨_, rfl⟩ .nil), ⟨_, hT2, rfl, _, rfl⟩⟩
    have I1 : Inv X pins σ (upd H s.heap.objs.size (.tup [.int (i : Nat), .str ⟨#[c]⟩])) { s with heap := h'', toks := tk + 1 } :=
      I.turnedNew (ch := [e, it]) (fun b ob hb q => (sb.2 b (fun z => hb (by simp [z]))).trans (hk b ob (fun z => hb (by simp [z])) (fun z => hb (by simp [z])) q)) hf (Nat.le_refl _) new
    have hit2 : h''.IsStrIter it ty x t (i + 1) := by
      obtain ⟨o, ho, r⟩ := hit'
      exact ⟨o, (sb.2 it (Ne.symm hne)).trans ho, r⟩
    refine ⟨.ref s.heap.objs.size, _, I1, rfl, ⟨_, c, rfl, I.hok.fresh (Nat.le_refl _), rfl, hc0⟩, ⟨⟨.str ⟨#[c]⟩ u0, ?_⟩, hit2, hne, hi⟩, fun b hb => ?_⟩
    · have e1 : ((i + 1 : Nat) : Int) = (i : Int) + 1 := by omega
      rw [e1]; exact he'
    · have hb' : b < s.heap.objs.size := by
        have e' : b = e ∨ b = it := by simpa using hb
        rcases e' with z | z
        · rw [z]; exact hel
        · rw [z]; exact hil
      rw [upd_ne (Nat.ne_of_lt hb')]
      exact (hf b hb).1
  done := by
    intro X hP hw hK hc i pins s σ H E I hf st hg
    subst hP hw hK
    obtain ⟨⟨old, he⟩, hit, hne, hle⟩ := st
    have hi : x.cps.size ≤ i := hg
    obtain ⟨f0, f1, f2, f3, f4, f5⟩ := hf it (by simp)
    have D : Draws X.prog X.w X.A.in1 it [it] x.cps.size (fun i v => ∃ c u, x.cps[i]? = some c ∧ v = .str ⟨#[c]⟩ u) (fun i h => h.IsStrIter it ty x t i) := by
      rcases hty with e1 | e1
      · rw [e1]; exact Draws.strAscii (A := X.A.in1) (I.ok.hd hc) it x t
      · rw [e1]; exact Draws.strWide (A := X.A.in1) (I.ok.hd hc) it x t
    have e0 : i = x.cps.size := Nat.le_antisymm hle hi
    subst e0
    exact wpAny_pyNext_enum_endD D he hit fun h' eb => ⟨rfl, I.turned (t' := s.toks) (fun b o hb q => eb b o hb q) f0 f1 f3 f4 f5⟩
  self := fun A i s Q E st h => let ⟨⟨_, he⟩, _⟩ := st; wpAny_pyIter_enum he h
def iEnumS (ta : TA) : TI := fun σ H R => ta σ H fun vs H1 => ∃ l, vs = [.str (S l)] ∧ R (Iten (S l)) H1
theorem pi_enumS {e : Expr} {ta : TA} {p pos tpos : Pos} {elts : List Expr} {kk : Nat} (hg : Gl X "enumerate") (hm : X.mg "enumerate" = none) (ha : PA X [e] ta) (hs : starEach [e] X.env = [(false, eval e X.env)] := by rfl) :
    PI X (.Tuple elts kk tpos) (.Call (.Name "enumerate" p) [e] [] pos) (iEnumS ta) := by
  refine ⟨fun pins s σ H R I h => ?_⟩
  refine Call_ (ld_blt I hg hm boot_enumerate (PyProof.Rows.callWith_type1 (thn (ha.run pos pins s σ H _ I h) fun us s1 ⟨vs, H1, I1, r1, q1⟩ => ?_) hs rfl))
  obtain ⟨l, ex, q⟩ := q1
  subst ex
  cases r1 with
  | cons r rr =>
    cases rr
    obtain ⟨t, rfl⟩ := r
    refine call_enumerate_str fun h' he hit hsz hk => wpAny_pyIter_enum he ?_
    have I2 : Inv X pins σ H1 { s1 with heap := h' } := I1.kept (t' := s1.toks) hk
    have hty : strIterType (S l) = "str_ascii_iterator" ∨ strIterType (S l) = "str_iterator" := by
      unfold strIterType
      split
      · exact .inl rfl
      · exact .inr rfl
    refine ⟨s1.heap.objs.size + 1, [s1.heap.objs.size + 1, s1.heap.objs.size], _, _, H1, rfl, I2, turn_enumS (s1.heap.objs.size + 1) s1.heap.objs.size (S l) t _ hty, ⟨⟨.none, he⟩, hit, Nat.succ_ne_self _, Nat.zero_le _⟩, fun b hb => ?_, q⟩
    have e' : b = s1.heap.objs.size + 1 ∨ b = s1.heap.objs.size := by simpa using hb
    have hle : s1.heap.objs.size ≤ b := by
      rcases e' with z | z
      · rw [z]; exact Nat.le_add_right _ _
      · rw [z]; exact Nat.le_refl _
    exact I1.fpOk hle (I1.hok.fresh hle)
/-- for i, c in enumerate(text) -/
theorem for_enumS {l : List Nat} {g : TG} {tb : TS} {D : Ends} {σ : L2.St} {H : Hp} (Pv : Nat → L2.St → Hp → Prop) (h0 : Pv 0 σ H)
    (hs : ∀ i c σ H T, l[i]? = some c → Pv i σ H → H T = none → g (.ref T) σ (upd H T (.tup [.int (i : Nat), .str (S [c])])) fun σ2 H2 => tb { D with nx := Pv (i + 1), ct := Pv (i + 1), bk := D.nx } σ2 H2) (hd : ∀ σ H, Pv l.length σ H → D.nx σ H) :
    ∃ W : Nat → Nat → L2.St → Hp → Prop, (∃ m, W 0 m σ H) ∧ ∀ i m σ H, W i m σ H →
      ((Iten (S l)).stop i H ∧ D.nx σ H) ∨ ((Iten (S l)).go i H ∧ ∃ N : L2.St → Hp → Prop, (∀ σ' H', N σ' H' → ∃ m', m' < m ∧ W (i + 1) m' σ' H') ∧ ∀ x H', (Iten (S l)).yld i H x H' → g x σ H' fun σ2 H2 => tb { D with nx := N, ct := N, bk := D.nx } σ2 H2) := by
  have sz : (S l).cps.size = l.length := S_len l
  have gt : ∀ i : Nat, (S l).cps[i]? = l[i]? := fun i => by
    unfold S
    simp
  refine ⟨fun i m σ H => m = l.length - i ∧ i ≤ l.length ∧ Pv i σ H, ⟨l.length, by simp, Nat.zero_le _, h0⟩, ?_⟩
  rintro i m σ H ⟨rfl, hi, p⟩
  by_cases hlt : i < l.length
  · refine .inr ⟨by show i < (S l).cps.size; omega, Pv (i + 1), fun σ' H' p' => ⟨l.length - (i + 1), by omega, rfl, hlt, p'⟩, fun x H' y => ?_⟩
    obtain ⟨T, c, rfl, hT, rfl, hc⟩ := y
    rw [gt] at hc
    exact hs i c σ H T hc p hT
  · have e : i = l.length := by omega
    subst e
    exact .inl ⟨by show (S l).cps.size ≤ l.length; omega, hd σ H p⟩
end
end Fg

set_option Elab.async false
set_option linter.all false
set_option maxRecDepth 100000
set_option maxHeartbeats 4000000
namespace Fg
open PySem PySem.Spec PyProof.Rows L2

/-! ### heaps -/
abbrev Ex := Evl.Ex
def Kp (d : Addr) (H H' : Hp) : Prop := ∀ b o, b ≠ d → H b = some o → H' b = some o
theorem Kp.refl (d : Addr) (H : Hp) : Kp d H H := fun _ _ _ h => h
theorem Kp.trans {d : Addr} {H H1 H2 : Hp} (a : Kp d H H1) (b : Kp d H1 H2) : Kp d H H2 := fun c o n h => b c o n (a c o n h)
theorem Kp.of {d : Addr} {H H' : Hp} (e : Ex H H') : Kp d H H' := fun b o _ h => e b o h
theorem Kp.upd {d : Addr} {H : Hp} {o : HO} : Kp d H (upd H d o) := fun b u n h => by rw [upd_ne n]; exact h
theorem Kp.l {K : PySem.W.Frag} {d : Addr} {H H' : Hp} (e : Kp d H H') {a : Addr} {xs : List V} (n : a ≠ d) (h : SqL K H a xs) : SqL K H' a xs := by
  rcases h with (h | ⟨o, h⟩) | h
  · exact .inl (.inl (e _ _ n h))
  · exact .inl (.inr ⟨o, e _ _ n h⟩)
  · exact .inr h

/-! ### a def that can be called -/
structure Can (P : Program) (w : World) (K : PySem.W.Frag) (mg : Str → Option Value) (base : Heap) (CX : CXT) (k : Nat) (x : Str) (ps : List Str) (sp : Sp) : Prop where
  ex : ∃ (f : Addr) (fd : FuncData), FnOk P w K mg base CX k f fd ps sp ∧ mg x = some (.ref f) ∧ PySem.W.keepIn K (.ref f) = true ∧ Binds K fd ps []
/-- what the top has written of a def -/
structure Defd (K : PySem.W.Frag) (mg : Str → Option Value) (x : Str) (st : Stmt) (ps : List Str) : Prop where
  ex : ∃ (f : Addr) (fd : FuncData), Fun K x x st f fd ∧ mg x = some (.ref f) ∧ Binds K fd ps []
section
variable {P : Program} {w : World} {K : PySem.W.Frag} {mg : Str → Option Value} {base : Heap}
theorem can0 {x : Str} {st : Stmt} {N ps : List Str} {k : Nat} {sp : Sp} (F : Defd K mg x st ps) (S : FnScope N ps (defScope st)) (len : ∀ vs H Q E, sp vs H Q E → vs.length = ps.length)
    (hbody : ∀ (f : Addr) (cdv : Value) (A : Around) (outer : List Env) (s : Shared) (H : Hp) (vs : List V) (Q : VK) (E : XK), Room k (A.deeper (envOfC x (defScope st) s.heap.objs.size f cdv)) → sp vs H Q E →
      ∃ t, PSs (cxOf L2.CX0 P w K mg base N x (defScope st) f cdv A outer s H E).nox (defBody st) t ∧ t { nx := fun _ H' => Q .non H', rt := Q } (start N vs) H) : Can P w K mg base L2.CX0 (k + 1) x ps sp := by
  obtain ⟨f, fd, F, hm, b⟩ := F.ex
  exact ⟨f, fd, F.ok S len fun cdv A outer s H vs Q E hr h => hbody f cdv A outer s H vs Q E hr h, hm, F.kp, b⟩
theorem canX {x : Str} {st : Stmt} {N ps : List Str} {k : Nat} {sp : Sp} (F : Defd K mg x st ps) (S : FnScope N ps (defScope st)) (len : ∀ vs H Q E, sp vs H Q E → vs.length = ps.length)
    (hbody : ∀ (f : Addr) (cdv : Value) (A : Around) (outer : List Env) (s : Shared) (H : Hp) (vs : List V) (Q : VK) (E : XK), Room k (A.deeper (envOfC x (defScope st) s.heap.objs.size f cdv)) → sp vs H Q E →
      ∃ t, PSs (cxOf (L2.CX P w) P w K mg base N x (defScope st) f cdv A outer s H E) (defBody st) t ∧ t { nx := fun _ H' => Q .non H', rt := Q } (start N vs) H) : Can P w K mg base (L2.CX P w) (k + 1) x ps sp := by
  obtain ⟨f, fd, F, hm, b⟩ := F.ex
  exact ⟨f, fd, F.okX S len fun cdv A outer s H vs Q E hr h => hbody f cdv A outer s H vs Q E hr h, hm, F.kp, b⟩
end
theorem hu64 {k : Nat} {A : Around} (hr : Room k A) : A.units + 64 < cLine := by have := hr.un; omega
section
variable {X : Cx} {k j : Nat} {x : Str} {sp : Sp} {ps : List Str} {p pos : Pos} {e : Expr} {es : List Expr} {t : TA}
theorem pe_can (c : Can X.prog X.w X.K X.mg X.base L2.CX0 k x ps sp) (hr : Room j X.A) (hk : k ≤ j) (hg : Gl X x) (ha : PA X (e :: es) t)
    (hdb : (x == ("__debug__" : Str)) = false := by decide) (he : starEach (e :: es) X.env = (false, eval e X.env) :: starEach es X.env := by rfl) (hpl : (backTo pos (starEach es X.env)).any (·.1) = false := by rfl) :
    PE X (.Call (.Name x p) (e :: es) [] pos) (tCall sp [] L2.E0 t) := by
  obtain ⟨f, fd, F, hm, kp, b⟩ := c.ex
  exact pe_call F (hr.mono hk) hg hm kp b .nil L2.pass0 ha hdb he hpl
/-- a def that may raise, called by one that may -/
theorem pe_canX {E : XK} (c : Can X.prog X.w X.K X.mg X.base (L2.CX X.prog X.w) k x ps sp) (hr : Room j X.A) (hk : k ≤ j) (hg : Gl X x) (hx : Passes (L2.CX X.prog X.w) X E) (ha : PA X (e :: es) t)
    (hdb : (x == ("__debug__" : Str)) = false := by decide) (he : starEach (e :: es) X.env = (false, eval e X.env) :: starEach es X.env := by rfl) (hpl : (backTo pos (starEach es X.env)).any (·.1) = false := by rfl) :
    PE X (.Call (.Name x p) (e :: es) [] pos) (tCall sp [] E t) := by
  obtain ⟨f, fd, F, hm, kp, b⟩ := c.ex
  exact pe_call F (hr.mono hk) hg hm kp b .nil hx ha hdb he hpl
/-- .. called within a try -/
theorem pe_canS {E : L2.St → XK} (c : Can X.prog X.w X.K X.mg X.base (L2.CX X.prog X.w) k x ps sp) (hr : Room j X.A) (hk : k ≤ j) (hg : Gl X x) (hx : ∀ σ, PassesAt (L2.CX X.prog X.w) X σ (E σ)) (ha : PA X (e :: es) t)
    (hdb : (x == ("__debug__" : Str)) = false := by decide) (he : starEach (e :: es) X.env = (false, eval e X.env) :: starEach es X.env := by rfl) (hpl : (backTo pos (starEach es X.env)).any (·.1) = false := by rfl) :
    PE X (.Call (.Name x p) (e :: es) [] pos) (tCallS sp E t) := by
  obtain ⟨f, fd, F, hm, kp, b⟩ := c.ex
  exact pe_callS F (hr.mono hk) hg hm kp b hx ha hdb he hpl
end
theorem pe_strL {X : Cx} {x : Str} {j : Nat} {pos : Pos} (l : List Nat) (h : x = S l) : PE X (.Constant (.str x) j pos) (tC (.str (S l))) := by
  rw [← h]; exact pe_str
theorem Kp.free {d : Addr} {H H' : Hp} (e : Kp d H H') {D : Addr} (hd : H' d ≠ none) (h : H' D = none) : H D = none := by
  cases q : H D with
  | none => rfl
  | some o =>
    have n : D ≠ d := fun z => hd (by rw [← z]; exact h)
    rw [e D o n q] at h
    cases h
theorem Kp.mut {d D : Addr} {H H' : Hp} {o : HO} (e : Kp d H H') (h : H D = none) : Kp d H (L2.upd H' D o) := fun b u n hb => by
  rw [upd_ne (ne_of_none hb h)]
  exact e b u n hb
theorem Kp.new {d D : Addr} {H : Hp} {o : HO} (h : H D = none) : Kp d H (L2.upd H D o) := fun b u _ hb => by
  rw [upd_ne (ne_of_none hb h)]
  exact hb
/-- the built-ins' names stand for the built-ins -/
structure Bi (mg : Str → Option Value) : Prop where
  b_len : mg "len" = none
  b_int : mg "int" = none
  b_str : mg "str" = none
  b_bool : mg "bool" = none
  b_list : mg "list" = none
  b_tuple : mg "tuple" = none
  b_sum : mg "sum" = none
  b_abs : mg "abs" = none
  b_min : mg "min" = none
  b_max : mg "max" = none
  b_sorted : mg "sorted" = none
  b_all : mg "all" = none
  b_any : mg "any" = none
  b_isinstance : mg "isinstance" = none
  b_range : mg "range" = none
  b_enumerate : mg "enumerate" = none
  b_zip : mg "zip" = none
  b_ValueError : mg "ValueError" = none

/-! ### readings, one step each -/
section
variable {σ : L2.St} {H : Hp} {Q : VK} {D : Ends} {ta tb tc te : TE} {t u : TS} {c d : TT} {tl : TA} {i : Nat} {v x y : V} {r : R2} {K : PySem.W.Frag}
theorem r_seq (q : t { D with nx := u D } σ H) : tSeq t u D σ H := q
theorem r_asg {g : TG} (q : te σ H fun x H1 => g x σ H1 D.nx) : tAsg te g D σ H := q
theorem r_gname {Q : L2.St → Hp → Prop} (q : Q (σ.set i (some v)) H) : gName i v σ H Q := q
theorem r_gsub {s : TSet} {Q : L2.St → Hp → Prop} (q : ta σ H fun o H1 => tb σ H1 fun i H2 => s o i v H2 fun H3 => Q σ H3) : gSub ta tb s v σ H Q := q
theorem r_ret (q : te σ H D.rt) : tRet te D σ H := q
theorem r_retN (q : D.rt .non H) : tRetN D σ H := q
theorem r_next (q : D.nx σ H) : tNext D σ H := q
theorem r_drop (q : te σ H fun _ H1 => D.nx σ H1) : tDrop te D σ H := q
theorem r_ifS (q : c σ H fun b H1 => if b = true then t D σ H1 else u D σ H1) : tIfS c t u D σ H := q
theorem r_if (q : c σ H fun b H1 => if b = true then ta σ H1 Q else tb σ H1 Q) : tIf c ta tb σ H Q := q
theorem r_par {j : Nat} (q : tl σ H fun vs H1 => ∃ v w, vs = [v, w] ∧ D.nx ((σ.set i (some v)).set j (some w)) H1) : tPar i j tl D σ H := q
theorem r_pair {P : V → V → Prop} (q : P x y) : ∃ v w, [x, y] = [v, w] ∧ P v w := ⟨x, y, rfl, q⟩
theorem r_test {Q : Bool → Hp → Prop} (q : te σ H fun x H' => ∃ k, x = .bl k ∧ Q k H') : tTest te σ H Q := q
theorem r_tB {Q : Bool → Hp → Prop} (q : te σ H fun x H' => ∃ k, x = .bl k ∧ Q k H') : tB te σ H Q := q
theorem r_not {Q : Bool → Hp → Prop} (q : c σ H fun b H1 => Q (!b) H1) : tNot c σ H Q := q
theorem r_and {Q : Bool → Hp → Prop} (q : c σ H fun b H1 => if b = true then d σ H1 Q else Q false H1) : tAnd c d σ H Q := q
theorem r_or {Q : Bool → Hp → Prop} (q : c σ H fun b H1 => if b = true then Q true H1 else d σ H1 Q) : tOr c d σ H Q := q
theorem r_andV (q : ta σ H fun x H1 => ∃ c, x = .bl c ∧ if c = true then tb σ H1 Q else Q (.bl false) H1) : tAndV ta tb σ H Q := q
theorem r_orV (q : ta σ H fun x H1 => ∃ c, x = .bl c ∧ if c = true then Q (.bl true) H1 else tb σ H1 Q) : tOrV ta tb σ H Q := q
theorem r_notV (q : ta σ H fun x H1 => ∃ c, x = .bl c ∧ Q (.bl (!c)) H1) : tNotV ta σ H Q := q
theorem r_nil {Q : List V → Hp → Prop} (q : Q [] H) : tNil σ H Q := q
theorem r_cons {Q : List V → Hp → Prop} (q : ta σ H fun x H1 => tl σ H1 fun xs H2 => Q (x :: xs) H2) : tCons ta tl σ H Q := q
theorem r_call {sp : Sp} {E : XK} (q : tl σ H fun vs H1 => sp (vs ++ []) H1 Q E) : tCall sp [] E tl σ H Q := q
theorem r_callS {sp : Sp} {E : L2.St → XK} (q : tl σ H fun vs H1 => sp vs H1 Q (E σ)) : tCallS sp E tl σ H Q := q
theorem r_cb {r : List V → Hp → VK → Prop} (q : tl σ H fun vs H1 => r vs H1 Q) : tCB r tl σ H Q := q
theorem r_then {k : V → Hp → VK → Prop} (q : ta σ H fun x H1 => k x H1 Q) : tThen ta k σ H Q := q
theorem r_tup (q : tl σ H fun xs H1 => xs.length ≤ sizeLine ∧ ∀ p, H1 p = none → Q (.ref p) (upd H1 p (.tup xs))) : tTup tl σ H Q := q
theorem r_lst (q : tl σ H fun xs H1 => xs.length ≤ sizeLine ∧ ∀ p, H1 p = none → Q (.ref p) (upd H1 p (.lst xs))) : tLst tl σ H Q := q
theorem r_sl {r : V → Option Int → Option Int → Hp → VK → Prop} {to th : TO} (q : te σ H fun x H1 => to σ H1 fun l H2 => th σ H2 fun u H3 => r x l u H3 Q) : tSl r te to th σ H Q := q
theorem r_nopart {Q : Option Int → Hp → Prop} (q : Q none H) : tNoPart σ H Q := q
theorem r_part {Q : Option Int → Hp → Prop} (q : te σ H fun x H1 => ∃ i, x = .int i ∧ Q (some i) H1) : tPart te σ H Q := q
theorem r_op (q : ta σ H fun x H1 => tb σ H1 fun y H2 => r x y H2 Q) : tOp r ta tb σ H Q := q
theorem r_un {r : V → Hp → VK → Prop} (q : ta σ H fun x H1 => r x H1 Q) : tUn r ta σ H Q := q
theorem r_chain {r' : R2} (q : ta σ H fun x H1 => tb σ H1 fun y H2 => r x y H2 fun z H3 => ∃ k, z = .bl k ∧ (if k = true then tc σ H3 fun w' H4 => r' y w' H4 Q else Q (.bl false) H3)) : tChain r r' ta tb tc σ H Q := q
theorem r_var (h : σ[i]? = some (some v)) (q : Q v H) : tVar i σ H Q := ⟨v, h, q⟩
theorem r_c (q : Q v H) : tC v σ H Q := q
theorem r_yes {Q : Bool → Hp → Prop} (q : Q true H) : tYes σ H Q := q
theorem r_bm {T : String} {r : V → List V → Hp → VK → Prop} {to : TE} (q : to σ H fun x H1 => tyV K T x H1 ∧ tl σ H1 fun xs H2 => r x xs H2 Q) : tBM K T r to tl σ H Q := q
theorem r_bl {b : Bool} {P : Bool → Prop} (q : P b) : ∃ k, V.bl b = V.bl k ∧ P k := ⟨b, rfl, q⟩
theorem r_in {b : Int} {P : Int → Prop} (q : P b) : ∃ k, V.int b = V.int k ∧ P k := ⟨b, rfl, q⟩
theorem r_ty {s : Str} {A : Prop} (q : A) : tyV K "str" (.str s) H ∧ A := ⟨rfl, q⟩
theorem r_I0 {g : Int → Int → V} {i j : Int} (q : Q (g i j) H) : rI0 g (.int i) (.int j) H Q := ⟨i, j, rfl, rfl, q⟩
theorem r_I {C : Int → Int → Prop} {g : Int → Int → V} {i j : Int} (hc : C i j) (q : Q (g i j) H) : rI C g (.int i) (.int j) H Q := ⟨i, j, rfl, rfl, hc, q⟩
theorem r_U {g : Int → V} {i : Int} (q : Q (g i) H) : rU g (.int i) H Q := ⟨i, rfl, q⟩
theorem r_eqI {i j : Int} (q : Q (.bl (decide (i = j))) H) : rEq (.int i) (.int j) H Q := ⟨rfl, by
  rw [show decide (V.int i = V.int j) = decide (i = j) by simp]; exact q⟩
theorem r_neI {i j : Int} (q : Q (.bl (!decide (i = j))) H) : rNe (.int i) (.int j) H Q := ⟨rfl, by
  rw [show decide (V.int i = V.int j) = decide (i = j) by simp]; exact q⟩
theorem r_eqS {i j : List Nat} (q : Q (.bl (decide (i = j))) H) : rEq (.str (S i)) (.str (S j)) H Q := ⟨rfl, by
  rw [show decide (V.str (S i) = V.str (S j)) = decide (i = j) by simp [S_eq]]; exact q⟩
theorem r_neS {i j : List Nat} (q : Q (.bl (!decide (i = j))) H) : rNe (.str (S i)) (.str (S j)) H Q := ⟨rfl, by
  rw [show decide (V.str (S i) = V.str (S j)) = decide (i = j) by simp [S_eq]]; exact q⟩
theorem r_eqB {i j : Bool} (q : Q (.bl (decide (i = j))) H) : rEq (.bl i) (.bl j) H Q := ⟨rfl, by
  rw [show decide (V.bl i = V.bl j) = decide (i = j) by simp]; exact q⟩
theorem r_neB {i j : Bool} (q : Q (.bl (!decide (i = j))) H) : rNe (.bl i) (.bl j) H Q := ⟨rfl, by
  rw [show decide (V.bl i = V.bl j) = decide (i = j) by simp]; exact q⟩
theorem r_catS {i j : List Nat} (h : i.length + j.length ≤ sizeLine) (q : Q (.str (S (i ++ j))) H) : rCatS (.str (S i)) (.str (S j)) H Q := ⟨i, j, rfl, rfl, h, q⟩
theorem r_repS {l : List Nat} {k : Int} (h0 : 0 ≤ k) (h1 : k < 2 ^ 62) (h : l.length * k.toNat ≤ sizeLine) (q : Q (.str (S (List.replicate k.toNat l).flatten)) H) : rRepS (.str (S l)) (.int k) H Q := ⟨l, k, rfl, rfl, h0, h1, h, q⟩
theorem r_slSS {l : List Nat} {lo hi : Option Int} (h : l.length ≤ sizeLine) (q : Q (.str (S (cutL l lo hi))) H) : rSlSS (.str (S l)) lo hi H Q := ⟨l, rfl, h, q⟩
theorem r_ixSS {l : List Nat} {j : Int} {c : Nat} (h : l.length ≤ sizeLine) (h0 : 0 ≤ j) (hc : l[j.toNat]? = some c) (q : Q (.str (S [c])) H) : rIxSS (.str (S l)) (.int j) H Q := ⟨l, j, c, rfl, rfl, h, by
  have e : j = ((j.toNat : Nat) : Int) := by omega
  rw [e]; exact atI_nat hc, q⟩
theorem r_niS {l : List Nat} {c : Nat} (q : Q (.bl (!decide (c ∈ l))) H) : rNiS (.str (S [c])) (.str (S l)) H Q := ⟨c, l, rfl, rfl, q⟩
theorem r_inSS {l : List Nat} {c : Nat} (q : Q (.bl (decide (c ∈ l))) H) : rInSS (.str (S [c])) (.str (S l)) H Q := ⟨c, l, rfl, rfl, q⟩
theorem r_lenS {l : List Nat} (h : l.length ≤ sizeLine) (q : Q (.int l.length) H) : rLenS [.str (S l)] H Q := ⟨l, rfl, h, q⟩
theorem r_lenL {p : Addr} {ys : List V} (h : SqL K H p ys) (q : Q (.int ys.length) H) : rLenQ K [.ref p] H Q := ⟨p, ys, rfl, .inl h, q⟩
theorem r_lenT {p : Addr} {ys : List V} (h : SqT K H p ys) (q : Q (.int ys.length) H) : rLenQ K [.ref p] H Q := ⟨p, ys, rfl, .inr h, q⟩
theorem r_ixL {p : Addr} {xs : List V} {j : Int} (h : SqL K H p xs) (h0 : 0 ≤ j) (hc : xs[j.toNat]? = some v) (q : Q v H) : rIxL K (.ref p) (.int j) H Q := ⟨p, xs, j, v, rfl, rfl, h, by
  have e : j = ((j.toNat : Nat) : Int) := by omega
  rw [e]; exact atI_nat hc, q⟩
theorem r_ixT {p : Addr} {xs : List V} {j : Int} (h : SqT K H p xs) (h0 : 0 ≤ j) (hc : xs[j.toNat]? = some v) (q : Q v H) : rIxT K (.ref p) (.int j) H Q := ⟨p, xs, j, v, rfl, rfl, h, by
  have e : j = ((j.toNat : Nat) : Int) := by omega
  rw [e]; exact atI_nat hc, q⟩
theorem r_setL {p : Addr} {xs : List V} {j : Int} {Q : Hp → Prop} (h : H p = some (.lst xs)) (h0 : 0 ≤ j) (hj : j.toNat < xs.length) (q : Q (upd H p (.lst (xs.set j.toNat v)))) : rSetL (.ref p) (.int j) v H Q := ⟨p, xs, j, j.toNat, rfl, rfl, h, by
  have e : j = ((j.toNat : Nat) : Int) := by omega
  have := Evl.ixN_nat hj
  rw [← e] at this
  exact this, q⟩
theorem r_sum {p : Addr} {ns : List Int} (h : SqL K H p (ns.map V.int)) (q : Q (.int ns.sum) H) : rSum K [.ref p] H Q := ⟨p, ns, rfl, h, q⟩
theorem take_map {α β : Type} {l : List α} {i : Nat} {x : β} {f : α → β} (h : (l.map f)[i]? = some x) : (l.take (i + 1)).map f = (l.take i).map f ++ [x] := by
  rw [List.getElem?_map] at h
  cases e : l[i]? with
  | none => rw [e] at h; cases h
  | some y =>
    rw [e] at h
    have e2 : f y = x := Option.some.inj h
    rw [List.take_add_one, e, List.map_append, ← e2]
    rfl
theorem lt_of_get {α : Type} {l : List α} {i : Nat} {x : α} (h : l[i]? = some x) : i < l.length := (List.getElem?_eq_some_iff.mp h).1
theorem r_join {p : Addr} {a : List Nat} {ys : List (List Nat)} (h : SqL K H p (ys.map fun l => V.str (S l))) (hz : (ys.map (·.length)).sum + ys.length * a.length ≤ 16777216) (q : Q (.str (S (TL.joinL a ys))) H) : rJoinS K (.str (S a)) [.ref p] H Q := ⟨a, p, ys, rfl, rfl, .inl h, hz, q⟩
theorem joinL_nil : ∀ ys : List (List Nat), TL.joinL [] ys = ys.flatten
  | [] => rfl
  | [p] => by simp [TL.joinL]
  | p :: q :: r => by
    show p ++ ([] ++ TL.joinL [] (q :: r)) = _
    rw [joinL_nil (q :: r)]
    rfl
theorem joinL_one (l : List Nat) : TL.joinL [] (l.map fun c => [c]) = l := by
  rw [joinL_nil]
  induction l with
  | nil => rfl
  | cons x r ih => rw [List.map_cons, List.flatten_cons, ih]; rfl
/-- ''.join of signs -/
theorem r_joinC {p : Addr} {l : List Nat} (h : SqL K H p (l.map fun c => V.str (S [c]))) (hz : l.length ≤ 100000) (q : Q (.str (S l)) H) : rJoinS K (.str (S [])) [.ref p] H Q := by
  have e : l.map (fun c => V.str (S [c])) = (l.map fun c => [c]).map fun l => V.str (S l) := by rw [List.map_map]; rfl
  rw [e] at h
  refine r_join h ?_ (by rw [joinL_one]; exact q)
  rw [List.map_map, List.length_map]
  have : (l.map ((fun x => x.length) ∘ fun c => [c])).sum = l.length := by
    clear h e q hz
    induction l with
    | nil => rfl
    | cons x r ih => rw [List.map_cons, List.sum_cons, ih, List.length_cons]; show 1 + r.length = r.length + 1; omega
  rw [this]
  show l.length + l.length * 0 ≤ _
  omega
theorem r_tupL {p : Addr} {xs : List V} (h : SqL K H p xs) (q : ∀ t, H t = none → Q (.ref t) (upd H t (.tup xs))) : kTup K (.ref p) H Q := .inl ⟨p, xs, rfl, h, q⟩
theorem r_tupT {p : Addr} {xs : List V} (h : SqT K H p xs) (q : Q (.ref p) H) : kTup K (.ref p) H Q := .inr ⟨p, xs, rfl, h, q⟩
theorem r_all {p : Addr} {bs : List Bool} (h : SqL K H p (bs.map V.bl)) (q : Q (.bl (bs.all id)) H) : rAll K [.ref p] H Q := ⟨p, bs, rfl, h, q⟩
theorem r_minS {p : Addr} {ls : List (List Nat)} (h : SqL K H p (ls.map fun l => V.str (S l))) (hn : ls ≠ []) (q : ∀ m ∈ ls, (∀ y ∈ ls, ¬ y < m) → Q (.str (S m)) H) : rMinS K [.ref p] H Q := ⟨p, ls, rfl, h, hn, q⟩
theorem ltCps_iff : ∀ a b : List Nat, PySem.Spec.ltCps a b = true ↔ a < b
  | [], [] => by simp [PySem.Spec.ltCps]
  | [], _ :: _ => by simp [PySem.Spec.ltCps]
  | _ :: _, [] => by simp [PySem.Spec.ltCps]
  | a :: r, b :: t => by
    simp only [PySem.Spec.ltCps, Bool.or_eq_true, Bool.and_eq_true, decide_eq_true_eq, beq_iff_eq, List.cons_lt_cons_iff, ltCps_iff r t]
theorem rising_le : ∀ (zs : List Str) (p : Str), PyProof.Rows.risingS p zs = true → ∀ y ∈ zs, ¬ y.cps.toList < p.cps.toList
  | [], _, _, y, hy => by cases hy
  | x :: r, p, h, y, hy => by
    have h' : (!PySem.Spec.ltCps x.cps.toList p.cps.toList && PyProof.Rows.risingS x r) = true := h
    rw [Bool.and_eq_true, Bool.not_eq_true'] at h'
    have hx : ¬ x.cps.toList < p.cps.toList := fun z => by
      have := (ltCps_iff _ _).mpr z
      rw [h'.1] at this
      cases this
    rcases List.mem_cons.mp hy with rfl | hy
    · exact hx
    · have := rising_le r x h'.2 y hy
      exact fun z => absurd z (List.not_lt.mpr (List.le_trans (List.not_lt.mp hx) (List.not_lt.mp this)))
/-- sorted(texts): its first is the least -/
theorem r_sortedS {p : Addr} {ls : List (List Nat)} (h : SqL K H p (ls.map fun l => V.str (S l))) (hl : ls.length < 64) (hn : ls ≠ [])
    (q : ∀ z zs d, z ∈ ls → (∀ y ∈ ls, ¬ y < z) → H d = none → Q (.ref d) (upd H d (.lst (.str (S z) :: zs)))) : rSortedS K [.ref p] H Q := by
  have e : ls.map (fun l => V.str (S l)) = (ls.map S).map V.str := by rw [List.map_map]; rfl
  rw [e] at h
  refine ⟨p, ls.map S, rfl, h, by rw [List.length_map]; exact hl, fun ys d hp hs hd => ?_⟩
  cases ys with
  | nil =>
    have := hp.length_eq
    rw [List.length_map] at this
    exact absurd (List.length_eq_zero_iff.mp this.symm) hn
  | cons y r =>
    have hy : y ∈ ls.map S := hp.mem_iff.mp (List.mem_cons_self ..)
    obtain ⟨z, hz, rfl⟩ := List.mem_map.mp hy
    refine q z (r.map V.str) d hz (fun x hx => ?_) hd
    have hx2 : S x ∈ S z :: r := hp.mem_iff.mpr (List.mem_map.mpr ⟨x, hx, rfl⟩)
    rcases List.mem_cons.mp hx2 with e | hx3
    · rw [S_inj e]; exact List.lt_irrefl _
    · have := rising_le r (S z) hs (S x) hx3
      rwa [S_cps, S_cps] at this
theorem kb_int_int : kitB "int" "int" = some true := by decide +kernel
theorem kb_int_bool : kitB "int" "bool" = some false := by decide +kernel
theorem kb_int_str : kitB "int" "str" = some false := by decide +kernel
theorem kb_int_list : kitB "int" "list" = some false := by decide +kernel
theorem kb_int_tuple : kitB "int" "tuple" = some false := by decide +kernel
theorem kb_bool_int : kitB "bool" "int" = some true := by decide +kernel
theorem kb_bool_bool : kitB "bool" "bool" = some true := by decide +kernel
theorem kb_bool_str : kitB "bool" "str" = some false := by decide +kernel
theorem kb_bool_list : kitB "bool" "list" = some false := by decide +kernel
theorem kb_bool_tuple : kitB "bool" "tuple" = some false := by decide +kernel
theorem kb_str_int : kitB "str" "int" = some false := by decide +kernel
theorem kb_str_bool : kitB "str" "bool" = some false := by decide +kernel
theorem kb_str_str : kitB "str" "str" = some true := by decide +kernel
theorem kb_str_list : kitB "str" "list" = some false := by decide +kernel
theorem kb_str_tuple : kitB "str" "tuple" = some false := by decide +kernel
theorem kb_NoneType_int : kitB "NoneType" "int" = some false := by decide +kernel
theorem kb_NoneType_bool : kitB "NoneType" "bool" = some false := by decide +kernel
theorem kb_NoneType_str : kitB "NoneType" "str" = some false := by decide +kernel
theorem kb_NoneType_list : kitB "NoneType" "list" = some false := by decide +kernel
theorem kb_NoneType_tuple : kitB "NoneType" "tuple" = some false := by decide +kernel
theorem kb_list_int : kitB "list" "int" = some false := by decide +kernel
theorem kb_list_bool : kitB "list" "bool" = some false := by decide +kernel
theorem kb_list_str : kitB "list" "str" = some false := by decide +kernel
theorem kb_list_list : kitB "list" "list" = some true := by decide +kernel
theorem kb_list_tuple : kitB "list" "tuple" = some false := by decide +kernel
theorem kb_tuple_int : kitB "tuple" "int" = some false := by decide +kernel
theorem kb_tuple_bool : kitB "tuple" "bool" = some false := by decide +kernel
theorem kb_tuple_str : kitB "tuple" "str" = some false := by decide +kernel
theorem kb_tuple_list : kitB "tuple" "list" = some false := by decide +kernel
theorem kb_tuple_tuple : kitB "tuple" "tuple" = some true := by decide +kernel
theorem r_isi {x : V} {n m : String} {b : Bool} (ht : TyX K H x (.type m)) (hk : kitB m n = some b) (q : Q (.bl b) H) : rIsi K [x, .ty n] H Q := ⟨x, .ty n, _, _, b, rfl, .ty n, ht, kit_ty hk, q⟩
/-- int(an int), abs(an int) -/
def rInt1 : List V → Hp → VK → Prop := fun xs H Q => ∃ i, xs = [.int i] ∧ Q (.int i) H
def rAbs : List V → Hp → VK → Prop := fun xs H Q => ∃ i, xs = [.int i] ∧ Q (.int (if i < 0 then -i else i)) H
theorem call_intI {X : Cx} : CallR X (.type "int") rInt1 := by
  intro pins s σ H xs us Q I r h
  exact call_int1 pins s σ H xs us Q I r (.inl h)
theorem call_absI {X : Cx} : CallR X (.builtin "abs") rAbs := call_abs
theorem r_int {i : Int} (q : Q (.int i) H) : rInt1 [.int i] H Q := ⟨i, rfl, q⟩
theorem r_abs {i : Int} (q : Q (.int (if i < 0 then -i else i)) H) : rAbs [.int i] H Q := ⟨i, rfl, q⟩
theorem r_cS {l : List Nat} (q : Q (.str (S l)) H) : tC (.str (S l)) σ H Q := q
theorem r_cs {s : Str} (q : Q (.str (S s.cps.toList)) H) : tC (.str s) σ H Q := by
  have e : s = S s.cps.toList := by cases s; simp [S]
  show Q (.str s) H
  rw [e]; exact q
theorem r_cut {Mid : L2.St → Hp → Prop} (h : t { D with nx := Mid } σ H) (k : ∀ σ' H', Mid σ' H' → u D σ' H') : Evl.tCut t u D σ H := ⟨Mid, h, k⟩
theorem r_ite {p : Prop} [Decidable p] {A B : Prop} (h1 : p → A) (h2 : ¬ p → B) : if decide p = true then A else B := by
  by_cases h : p
  · rw [decide_eq_true h]; exact h1 h
  · rw [decide_eq_false h]; exact h2 h
theorem r_iteN {p : Prop} [Decidable p] {A B : Prop} (h1 : ¬ p → A) (h2 : p → B) : if (!decide p) = true then A else B := by
  by_cases h : p
  · rw [decide_eq_true h]; exact h2 h
  · rw [decide_eq_false h]; exact h1 h
theorem r_notNn (q : Q (.bl false) H) : rNotN .non .non H Q := ⟨rfl, q⟩
theorem r_notN_int {i : Int} (q : Q (.bl true) H) : rNotN (.int i) .non H Q := ⟨rfl, q⟩
theorem r_notN_str {i : Str} (q : Q (.bl true) H) : rNotN (.str i) .non H Q := ⟨rfl, q⟩
theorem r_notN_ref {i : Addr} (q : Q (.bl true) H) : rNotN (.ref i) .non H Q := ⟨rfl, q⟩
theorem r_isNn (q : Q (.bl true) H) : rIsN .non .non H Q := ⟨rfl, q⟩
theorem r_isN_int {i : Int} (q : Q (.bl false) H) : rIsN (.int i) .non H Q := ⟨rfl, q⟩
theorem r_isN_str {i : Str} (q : Q (.bl false) H) : rIsN (.str i) .non H Q := ⟨rfl, q⟩
theorem r_isN_ref {i : Addr} (q : Q (.bl false) H) : rIsN (.ref i) .non H Q := ⟨rfl, q⟩
theorem r_iteB {b : Bool} {A B : Prop} (h1 : b = true → A) (h2 : b = false → B) : if b = true then A else B := by
  cases b with
  | true => exact h1 rfl
  | false => exact h2 rfl
theorem r_T {A B : Prop} (h : A) : if true = true then A else B := h
theorem r_F {A B : Prop} (h : B) : if false = true then A else B := h
theorem r_nT {A B : Prop} (h : B) : if (!true) = true then A else B := h
theorem r_nF {A B : Prop} (h : A) : if (!false) = true then A else B := h
theorem r_iteNB {b : Bool} {A B : Prop} (h1 : b = false → A) (h2 : b = true → B) : if (!b) = true then A else B := by
  cases b with
  | true => exact h2 rfl
  | false => exact h1 rfl
end
theorem small {n : Nat} (h : n ≤ 1000000) : n ≤ sizeLine := by rw [sizeLine_eq]; omega
theorem lit (s : Str) : s = S s.cps.toList := by cases s; simp [S]


/-! ### comprehensions and loops -/
section
variable {σ : L2.St} {H H1 : Hp} {Q : VK} {D : Ends} {ta te tl : TE} {tb : TS} {tt : TT} {tA : TA} {j : Nat} {vs : List Nat} {K : PySem.W.Frag} {g : TG}
def LcP (J : It) (g : TG) (tt : TT) (te : TE) (vs : List Nat) (σ : L2.St) (H1 : Hp) (Q : VK) : Prop := ∀ D, H1 D = none → ∃ W : Nat → Nat → Hp → Prop, (∃ m, W 0 m (upd H1 D (.lst []))) ∧ ∀ i m H, W i m H →
      (J.stop i H ∧ Q (.ref D) H) ∨ (J.go i H ∧ ∃ Nx : Hp → Prop, (∀ H', Nx H' → ∃ m', m' < m ∧ W (i + 1) m' H') ∧ ∀ x H', J.yld i H x H' → g x (wipe σ vs) H' fun σ2 H2 => wipe σ2 vs = wipe σ vs ∧ tt σ2 H2 fun b H3 =>
        if b = true then te σ2 H3 fun y H4 => ∃ acc, H4 D = some (.lst acc) ∧ acc.length < sizeLine ∧ Nx (upd H4 D (.lst (acc ++ [y]))) else Nx H3)
def ForP (J : It) (g : TG) (tb : TS) (D : Ends) (σ : L2.St) (H1 : Hp) : Prop := ∃ W : Nat → Nat → L2.St → Hp → Prop, (∃ m, W 0 m σ H1) ∧ ∀ i m σ H, W i m σ H →
      (J.stop i H ∧ D.nx σ H) ∨ (J.go i H ∧ ∃ N : L2.St → Hp → Prop, (∀ σ' H', N σ' H' → ∃ m', m' < m ∧ W (i + 1) m' σ' H') ∧ ∀ x H', J.yld i H x H' → g x σ H' fun σ2 H2 => tb { D with nx := N, ct := N, bk := D.nx } σ2 H2)
theorem r_lcR1 (q : tA σ H fun xs H1 => ∃ n : Int, xs = [.int n] ∧ -(2 ^ 62) ≤ n ∧ n < 2 ^ 62 ∧ LcP (Itr 0 n.toNat) g tt te vs σ H1 Q) : tLc (iRng1 tA) g tt te vs σ H Q := q
theorem r_lcR2 (q : tA σ H fun xs H1 => ∃ i n : Int, xs = [.int i, .int n] ∧ (-(2 ^ 62) ≤ i ∧ i < 2 ^ 62 ∧ -(2 ^ 62) ≤ n ∧ n < 2 ^ 62) ∧ LcP (Itr i (n - i).toNat) g tt te vs σ H1 Q) : tLc (iRng2 tA) g tt te vs σ H Q := q
theorem r_lcL (q : tl σ H fun x H1 => ∃ a, x = .ref a ∧ (∃ xs, SqL K H1 a xs) ∧ LcP (Itl K a) g tt te vs σ H1 Q) : tLc (iList K tl) g tt te vs σ H Q := q
theorem r_lcT (q : tl σ H fun x H1 => ∃ a, x = .ref a ∧ (∃ xs, SqT K H1 a xs) ∧ LcP (Itt K a) g tt te vs σ H1 Q) : tLc (iTup K tl) g tt te vs σ H Q := q
theorem r_forR1 (q : tA σ H fun xs H1 => ∃ n : Int, xs = [.int n] ∧ -(2 ^ 62) ≤ n ∧ n < 2 ^ 62 ∧ ForP (Itr 0 n.toNat) g tb D σ H1) : tFor (iRng1 tA) g tb D σ H := q
theorem r_forR2 (q : tA σ H fun xs H1 => ∃ i n : Int, xs = [.int i, .int n] ∧ (-(2 ^ 62) ≤ i ∧ i < 2 ^ 62 ∧ -(2 ^ 62) ≤ n ∧ n < 2 ^ 62) ∧ ForP (Itr i (n - i).toNat) g tb D σ H1) : tFor (iRng2 tA) g tb D σ H := q
theorem r_forL (q : tl σ H fun x H1 => ∃ a, x = .ref a ∧ (∃ xs, SqL K H1 a xs) ∧ ForP (Itl K a) g tb D σ H1) : tFor (iList K tl) g tb D σ H := q
theorem r_forT (q : tl σ H fun x H1 => ∃ a, x = .ref a ∧ (∃ xs, SqT K H1 a xs) ∧ ForP (Itt K a) g tb D σ H1) : tFor (iTup K tl) g tb D σ H := q
theorem r_forS (q : tl σ H fun v H1 => ∃ x, v = .str x ∧ ForP (Its x) g tb D σ H1) : tFor (iStr tl) g tb D σ H := q
theorem r_forE (q : tA σ H fun xs H1 => ∃ l, xs = [.str (S l)] ∧ ForP (Iten (S l)) g tb D σ H1) : tFor (iEnumS tA) g tb D σ H := q
theorem r_rng1 {n : Int} {P : Int → Prop} (h : -1000000 ≤ n ∧ n ≤ 1000000) (q : P n) : ∃ m : Int, [V.int n] = [V.int m] ∧ -(2 ^ 62) ≤ m ∧ m < 2 ^ 62 ∧ P m := ⟨n, rfl, by omega, by omega, q⟩
theorem r_rng2 {i n : Int} {P : Int → Int → Prop} (h : -1000000 ≤ i ∧ i ≤ 1000000 ∧ -1000000 ≤ n ∧ n ≤ 1000000) (q : P i n) : ∃ k m : Int, [V.int i, V.int n] = [V.int k, V.int m] ∧ (-(2 ^ 62) ≤ k ∧ k < 2 ^ 62 ∧ -(2 ^ 62) ≤ m ∧ m < 2 ^ 62) ∧ P k m := ⟨i, n, rfl, ⟨by omega, by omega, by omega, by omega⟩, q⟩
theorem r_refL {a : Addr} {xs : List V} {P : Addr → Prop} (h : SqL K H a xs) (q : P a) : ∃ b, V.ref a = V.ref b ∧ (∃ xs, SqL K H b xs) ∧ P b := ⟨a, rfl, ⟨xs, h⟩, q⟩
theorem r_refT {a : Addr} {xs : List V} {P : Addr → Prop} (h : SqT K H a xs) (q : P a) : ∃ b, V.ref a = V.ref b ∧ (∃ xs, SqT K H b xs) ∧ P b := ⟨a, rfl, ⟨xs, h⟩, q⟩
theorem r_strE {l : List Nat} {P : List Nat → Prop} (q : P l) : ∃ m, [V.str (S l)] = [V.str (S m)] ∧ P m := ⟨l, rfl, q⟩

/-- behind i turns of a comprehension: acc made, the list at D -/
def LcI (J : Addr → Nat → List V → Hp → Prop) (D : Addr) (i : Nat) (H2 : Hp) : Prop := ∃ acc, H2 D = some (.lst acc) ∧ acc.length ≤ i ∧ J D i acc H2
theorem lc_end {J : Addr → Nat → List V → Hp → Prop} {D : Addr} {i : Nat} {acc : List V} {y : V} {H4 : Hp} (hi : i < 100000) (ha : acc.length ≤ i) (h : H4 D = some (.lst acc)) (k : J D (i + 1) (acc ++ [y]) (upd H4 D (.lst (acc ++ [y])))) :
    ∃ acc, H4 D = some (.lst acc) ∧ acc.length < sizeLine ∧ LcI J D (i + 1) (upd H4 D (.lst (acc ++ [y]))) :=
  ⟨acc, h, by rw [sizeLine_eq]; omega, acc ++ [y], upd_same, by rw [List.length_append, List.length_singleton]; omega, k⟩
theorem lc_skip {J : Addr → Nat → List V → Hp → Prop} {D : Addr} {i : Nat} {acc : List V} {H4 : Hp} (ha : acc.length ≤ i) (h : H4 D = some (.lst acc)) (k : J D (i + 1) acc H4) : LcI J D (i + 1) H4 := ⟨acc, h, by omega, k⟩
theorem lcR {lo : Int} {n : Nat} (J : Addr → Nat → List V → Hp → Prop) (hw : ∀ x, wipe ((wipe σ vs).set j (some x)) vs = wipe σ vs)
    (h0 : ∀ D, H1 D = none → J D 0 [] (upd H1 D (.lst [])))
    (hs : ∀ D i H2 acc, H1 D = none → i < n → H2 D = some (.lst acc) → acc.length ≤ i → J D i acc H2 → tt ((wipe σ vs).set j (some (.int (lo + i)))) H2 fun b H3 =>
      if b = true then te ((wipe σ vs).set j (some (.int (lo + i)))) H3 fun y H4 => ∃ acc, H4 D = some (.lst acc) ∧ acc.length < sizeLine ∧ LcI J D (i + 1) (upd H4 D (.lst (acc ++ [y]))) else LcI J D (i + 1) H3)
    (hd : ∀ D H2 acc, H1 D = none → H2 D = some (.lst acc) → J D n acc H2 → Q (.ref D) H2) : LcP (Itr lo n) (gName j) tt te vs σ H1 Q := fun D hD =>
  lc_range (LcI J D) ⟨[], upd_same, Nat.le_refl _, h0 D hD⟩
    (fun i H2 hi ⟨acc, h1, h2, h3⟩ => ⟨hw _, hs D i H2 acc hD hi h1 h2 h3⟩) (fun H2 ⟨acc, h1, h2, h3⟩ => hd D H2 acc hD h1 h3)
theorem lcL {a : Addr} {xs : List V} (J : Addr → Nat → List V → Hp → Prop) (hw : ∀ x, wipe ((wipe σ vs).set j (some x)) vs = wipe σ vs)
    (h0 : ∀ D, H1 D = none → J D 0 [] (upd H1 D (.lst []))) (hl : ∀ D i H2 acc, H1 D = none → J D i acc H2 → SqL K H2 a xs)
    (hs : ∀ D i x H2 acc, H1 D = none → xs[i]? = some x → H2 D = some (.lst acc) → acc.length ≤ i → J D i acc H2 → tt ((wipe σ vs).set j (some x)) H2 fun b H3 =>
      if b = true then te ((wipe σ vs).set j (some x)) H3 fun y H4 => ∃ acc, H4 D = some (.lst acc) ∧ acc.length < sizeLine ∧ LcI J D (i + 1) (upd H4 D (.lst (acc ++ [y]))) else LcI J D (i + 1) H3)
    (hd : ∀ D H2 acc, H1 D = none → H2 D = some (.lst acc) → J D xs.length acc H2 → Q (.ref D) H2) : LcP (Itl K a) (gName j) tt te vs σ H1 Q := fun D hD =>
  lc_list (xs := xs) (LcI J D) ⟨[], upd_same, Nat.le_refl _, h0 D hD⟩ (fun i H2 _ ⟨acc, _, _, h3⟩ => hl D i H2 acc hD h3)
    (fun i x H2 hi ⟨acc, h1, h2, h3⟩ => ⟨hw _, hs D i x H2 acc hD hi h1 h2 h3⟩) (fun H2 ⟨acc, h1, h2, h3⟩ => hd D H2 acc hD h1 h3)
theorem lcT {a : Addr} {xs : List V} (J : Addr → Nat → List V → Hp → Prop) (hw : ∀ x, wipe ((wipe σ vs).set j (some x)) vs = wipe σ vs)
    (h0 : ∀ D, H1 D = none → J D 0 [] (upd H1 D (.lst []))) (hl : ∀ D i H2 acc, H1 D = none → J D i acc H2 → SqT K H2 a xs)
    (hs : ∀ D i x H2 acc, H1 D = none → xs[i]? = some x → H2 D = some (.lst acc) → acc.length ≤ i → J D i acc H2 → tt ((wipe σ vs).set j (some x)) H2 fun b H3 =>
      if b = true then te ((wipe σ vs).set j (some x)) H3 fun y H4 => ∃ acc, H4 D = some (.lst acc) ∧ acc.length < sizeLine ∧ LcI J D (i + 1) (upd H4 D (.lst (acc ++ [y]))) else LcI J D (i + 1) H3)
    (hd : ∀ D H2 acc, H1 D = none → H2 D = some (.lst acc) → J D xs.length acc H2 → Q (.ref D) H2) : LcP (Itt K a) (gName j) tt te vs σ H1 Q := fun D hD =>
  lc_tup (xs := xs) (LcI J D) ⟨[], upd_same, Nat.le_refl _, h0 D hD⟩ (fun i H2 _ ⟨acc, _, _, h3⟩ => hl D i H2 acc hD h3)
    (fun i x H2 hi ⟨acc, h1, h2, h3⟩ => ⟨hw _, hs D i x H2 acc hD hi h1 h2 h3⟩) (fun H2 ⟨acc, h1, h2, h3⟩ => hd D H2 acc hD h1 h3)
/-- loops, by what holds behind i turns -/
theorem forR {lo : Int} {n : Nat} (J : Nat → L2.St → Hp → Prop) (h0 : J 0 σ H1)
    (hs : ∀ i σ H, i < n → J i σ H → g (.int (lo + i)) σ H fun σ2 H2 => tb { D with nx := J (i + 1), ct := J (i + 1), bk := D.nx } σ2 H2) (hd : ∀ σ H, J n σ H → D.nx σ H) : ForP (Itr lo n) g tb D σ H1 := for_range J h0 hs hd
theorem forL {a : Addr} {xs : List V} (J : Nat → L2.St → Hp → Prop) (h0 : J 0 σ H1) (hl : ∀ i σ H, i ≤ xs.length → J i σ H → SqL K H a xs)
    (hs : ∀ i x σ H, xs[i]? = some x → J i σ H → g x σ H fun σ2 H2 => tb { D with nx := J (i + 1), ct := J (i + 1), bk := D.nx } σ2 H2) (hd : ∀ σ H, J xs.length σ H → D.nx σ H) : ForP (Itl K a) g tb D σ H1 := for_list J h0 hl hs hd
theorem forT {a : Addr} {xs : List V} (J : Nat → L2.St → Hp → Prop) (h0 : J 0 σ H1) (hl : ∀ i σ H, i ≤ xs.length → J i σ H → SqT K H a xs)
    (hs : ∀ i x σ H, xs[i]? = some x → J i σ H → g x σ H fun σ2 H2 => tb { D with nx := J (i + 1), ct := J (i + 1), bk := D.nx } σ2 H2) (hd : ∀ σ H, J xs.length σ H → D.nx σ H) : ForP (Itt K a) g tb D σ H1 := for_tup J h0 hl hs hd
theorem forE {l : List Nat} (J : Nat → L2.St → Hp → Prop) (h0 : J 0 σ H1)
    (hs : ∀ i c σ H T, l[i]? = some c → J i σ H → H T = none → g (.ref T) σ (upd H T (.tup [.int (i : Nat), .str (S [c])])) fun σ2 H2 => tb { D with nx := J (i + 1), ct := J (i + 1), bk := D.nx } σ2 H2) (hd : ∀ σ H, J l.length σ H → D.nx σ H) : ForP (Iten (S l)) g tb D σ H1 := for_enumS J h0 hs hd
end
end Fg

set_option Elab.async false
set_option linter.all false
set_option maxRecDepth 100000
set_option maxHeartbeats 4000000
/-! isinstance of a caught error whose class has its own __init__ (its dict is there) -/
namespace PySem.W
open PySem PySem.Spec PySem.Calls PyProof.Rows
section
variable {prog : Program} {w : World} {A : Around} {E : Value → Shared → Prop} {s : Shared} {K : Frag} {x D : Addr} {ox oi : Obj}
theorem fg_class {Q : Option Value → Shared → Prop} (C : L2.ExcC K D) (X : K.In s.heap) (I : InstAt s.heap x ox D (some oi)) (h : Q (some (.ref D)) { s with toks := s.toks + 1 }) : wpAny (model prog w) A (getAttr? (.ref x) "__class__") Q E s := by
  have hf : findObj K D (some oi) "__class__" = some (.bind (.builtin "getset_descriptor.__get__") (.builtin "object.__class__")) := findObj_data (by obtain ⟨cd, e, _⟩ := any_some C.hd; rw [e]; rfl) C.ha C.hn C.ht
  obtain ⟨hp, g, dr, tk, os⟩ := s
  have ty := I.type (M := model prog w)
  have ge := looks_findIn (M := model prog w) X C.hg
  have ho := looks_findIn (M := model prog w) X C.hk
  have fi := looks_find (M := model prog w) X I hf
  have be : Looks (model prog w) hp (isInstance (.ref x) (.type "BaseException")) true := ty.andThen (looks_subIn X C.hs)
  have ne : (Value.builtin "BaseException.__getattribute__" == Value.builtin "object.__getattribute__") = false := by decide +kernel
  unfold getAttr? getAttrBy? getAttrBy
  refine wpAny_bind (wpAny_mkText (wpAny_bind (wpAny_attempt (wpAny_holding (wpAny_bind (ty.at (wpAny_bind (ge.at ?_))))))))
  show wpAny _ _ (if (onTheHeap (Value.ref D) && (Value.builtin "BaseException.__getattribute__" == Value.builtin "object.__getattribute__")) = true then _ else _) _ _ _
  rw [ne, Bool.and_false, if_neg Bool.false_ne_true]
  unfold getAttrByItsOwn hookBefore
  rw [if_pos (show onTheHeap (Value.ref D) = true from rfl)]
  refine wpAny_bind (ho.at (wpAny_bind (wpAny_attempt (wpAny_holding ?_))))
  unfold callGetattribute
  rw [show (false && onTheHeap (Value.builtin "BaseException.__getattribute__")) = false from rfl, if_neg Bool.false_ne_true]
  unfold boundAndCalled
  rw [PySem.F.excAttr_ValueError.ga.bind (.ref x)]
  refine wpAny_bind (wpAny_pure ?_)
  refine wpAny_call (codeAny_call_builtin PySem.F.excAttr_ValueError.ga.plain PySem.F.entry_bexc_ga (@check_slot (model prog w) _ _ ⟨hp, g, dr, tk + 1, os⟩ "BaseException.__getattribute__" "BaseException" "__getattribute__" (.ref x) [.str "__class__" tk] [] _ (by decide +kernel) (by decide +kernel) be (PySem.F.args_bexc_ga (.ref x) (.str "__class__" tk)) ?_))
  unfold Builtin.«object.__getattribute__»
  refine wpAny_bind (wpAny_of_eq (a := ((Value.ref x : Value), [Value.str "__class__" tk])) (by first | rfl | (simp only [slotArgs]; rfl)) (wpAny_bind (wpAny_pure (wpAny_bind (ty.at (wpAny_bind (fi.at ?_)))))))
  show wpAny _ _ (holding [Value.builtin "object.__class__"] (call (.builtin "getset_descriptor.__get__") [.builtin "object.__class__", .ref x, .ref D]) >>= ret) _ _ _
  refine wpAny_bind (wpAny_holding (wpAny_call (class_get (s := ⟨hp, g, dr, tk + 1, os⟩) (ox := ox) (od := some oi) X I C.hm ?_)))
  refine wpAny_pure ?_
  show wpAny _ _ (handedOut (.ref D)) _ _ _
  rw [handedOut_of (v := .ref D) rfl]
  first
    | exact wpAny_pure (wpAny_pure h)
    | exact wpAny_pure h
    | exact wpAny_pure (wpAny_bind (wpAny_pure (wpAny_pure h)))
theorem fg_kitx (C : L2.ExcC K D) : KitX K (.ref x) (.ref D) (fun h => InstAt h x ox D (some oi)) where
  ty := fun _ _ _ I => I.type
  it := fun _ _ X _ => by
    obtain ⟨cd, hc, _⟩ := any_some C.hd
    unfold clsIn at hc
    split at hc
    · rename_i ho
      intro A' Q' E' s' k q
      unfold isType loadHead
      exact wpAny_bind (wpAny_loadPart (k _ _ (X _ _ ho)) (wpAny_pure q))
    · cases hc
  ne := fun h tp dd its n sl X htp => by
    obtain ⟨cd, hc, _⟩ := any_some C.hd
    refine Bool.eq_false_iff.mpr fun q => ?_
    have e : D = tp := Value.ref.inj (beq_iff_eq.mp q)
    subst e
    unfold clsIn at hc
    split at hc
    · rename_i ho
      have z := (X _ _ ho).symm.trans htp
      cases z
    · cases hc
  ca := fun X I k => fg_class C X I k
end
end PySem.W
namespace Fg
open PySem PySem.Spec PyProof.Rows L2
/-- isinstance(e, c), e the exception that the suite holds at a, of the class cls, its dict d -/
def rIsX (K : PySem.W.Frag) (a : Addr) (cls : Value) (d : Option Addr) : List V → Hp → VK → Prop := fun xs H Q => ∃ (D : Addr) (c : V) (cv : Value) (b : Bool) (dd : Addr) (fs : List (Str × V)), xs = [.ref a, c] ∧ (∀ u, RelV c u → u = cv) ∧ cls = .ref D ∧ ExcC K D ∧ PySem.W.kitOne K (.ref D) cv = some b ∧
  d = some dd ∧ H dd = some (.xd fs) ∧ Q (.bl b) H
theorem call_isX {X : Cx} {a : Addr} {cls : Value} {d : Option Addr} {oe : Obj} {pn : List (Addr × Obj)} (hz : Zc cls d oe) (hf : ∃ vs, oe.data = .fields vs) : CallR (X.suite a ((a, oe) :: pn)) (.builtin "isinstance") (rIsX X.K a cls d) := by
  intro pins s σ H xs us Q I r h
  obtain ⟨D, c, cv, b, dd, fs, rfl, hcv, rfl, C, e, rfl, hdd, q⟩ := h
  cases r with
  | cons rx rr =>
    cases rr with
    | cons rt rr =>
      cases rr
      cases rx
      have ec := hcv _ rt
      subst ec
      obtain ⟨hget, _⟩ := I.pin (a, oe) (List.mem_append.mpr (.inl List.mem_cons_self))
      obtain ⟨vs, hv⟩ := hf
      have hx : ObjOk X.prog X.w H s.heap dd (.xd fs) := I.hok dd _ hdd
      obtain ⟨mA, hns, hr⟩ := hx
      obtain ⟨od, ho, hl⟩ := lookIn_ns hns
      have J : PySem.W.InstAt s.heap a oe D (some od) := ⟨hget, hz.1, by unfold PySem.W.notCls; rw [hv] <;> rfl, by rw [hz.2]; exact ho⟩
      exact PySem.W.kia_one (PySem.W.fg_kitx C) I.kIn J e (fun z => nomatch z) fun tk => ⟨.bl b, H, I.kept (t' := tk) fun _ _ z => z, rfl, q⟩

/-! ### errors with one field -/
def spInit (C : Addr) (fld : Str) : Sp := fun vs H Q _ => ∃ (a : Addr) (v : V), vs = [.ref a, v] ∧ H a = some (exo a C none) ∧ ∀ dx, H dx = none → dx ≠ a → Q .non (upd (upd H dx (exd dx [(fld, v)])) a (exo a C (some dx)))
structure Err (P : Program) (w : World) (K : PySem.W.Frag) (mg : Str → Option Value) (base : Heap) (x : Str) (C : Addr) (fld : Str) : Prop where
  g : mg x = some (.ref C)
  o : OexC K C
  xf : XfC K C
  xc : ExcC K C
  noN : PySem.W.findIn K (.ref C) fld = some none
  ini : ∃ (fI : Addr) (fd : FuncData) (ps : List Str), PySem.W.findIn K (.ref C) "__init__" = some (some (.ref fI)) ∧ PySem.W.typeIn K (.ref fI) = some (.type "function") ∧ FnOk P w K mg base L2.CX0 1 fI fd ps (spInit C fld) ∧ Binds K fd ps []
section
variable {X : Cx} {x : Str} {C : Addr} {fld : Str} {j : Nat} {e : Expr} {es : List Expr} {ta : TA} {p pos : Pos}
theorem pmk_err (E : Err X.prog X.w X.K X.mg X.base x C fld) (hr : Room j X.A) (hj : 2 ≤ j) (hg : Gl X x) (ha : PA X (e :: es) ta)
    (hdb : (x == ("__debug__" : Str)) = false := by decide) (he : starEach (e :: es) X.env = (false, eval e X.env) :: starEach es X.env := by rfl) (hpl : (backTo pos (starEach es X.env)).any (·.1) = false := by rfl) :
    PMk X (.Call (.Name x p) (e :: es) [] pos) (tMkO C (spInit C fld) [] ta) := by
  obtain ⟨fI, fd, ps, iC, tI, F, b⟩ := E.ini
  exact pmk_oex E.o iC tI F (hr.mono hj) b .nil L2.pass0 hg E.g ha hdb he hpl
end
theorem r_mko {σ : L2.St} {H : Hp} {ta : TA} {C : Addr} {fld : Str} {Q : XK} (q : ta σ H fun vs H1 => vs.length ≤ 1000 ∧ ∀ a, H1 a = none → spInit C fld (.ref a :: (vs ++ [])) (upd H1 a (exo a C none))
  (fun v H2 => v = .non ∧ ∃ (d : Addr) (fs : List (Str × V)), H2 a = some (exo a C (some d)) ∧ H2 d = some (exd d fs) ∧ H1 d = none ∧ Q (.ref C) (some d) (upd (del H2 a) d (.xd fs))) (fun _ _ _ => False)) : tMkO C (spInit C fld) [] ta σ H Q := q
/-- what is raised: the error of this class, whose dict is new -/
def Wish (C : Addr) (fld : Str) (v : V) (H : Hp) (E : XK) : Prop := ∀ d H', H d = none → Ex H H' → H' d = some (.xd [(fld, v)]) → E (.ref C) (some d) H'
theorem Wish.ex {C : Addr} {fld : Str} {v : V} {H H1 : Hp} {E : XK} (w : Wish C fld v H E) (e : Ex H H1) : Wish C fld v H1 E := fun d H' hd ex h => w d H' (Evl.fresh_back e hd) (e.trans ex) h
theorem r_mk {H1 : Hp} {C : Addr} {fld : Str} {v : V} {Q : XK} (q : Wish C fld v H1 Q) : [v].length ≤ 1000 ∧ ∀ a, H1 a = none → spInit C fld (.ref a :: ([v] ++ [])) (upd H1 a (exo a C none))
  (fun u H2 => u = .non ∧ ∃ (d : Addr) (fs : List (Str × V)), H2 a = some (exo a C (some d)) ∧ H2 d = some (exd d fs) ∧ H1 d = none ∧ Q (.ref C) (some d) (upd (del H2 a) d (.xd fs))) (fun _ _ _ => False) := by
  refine ⟨by show 1 ≤ 1000; decide, fun a ha => ⟨a, v, rfl, upd_same, fun dx hd ne => ⟨rfl, dx, [(fld, v)], upd_same, ?_, ?_, ?_⟩⟩⟩
  · rw [upd_ne ne, upd_same]
  · rw [upd_ne ne] at hd
    exact hd
  · rw [upd_ne ne] at hd
    refine q dx _ hd (fun b o hb => ?_) upd_same
    have n1 : b ≠ dx := ne_of_none hb hd
    have n2 : b ≠ a := ne_of_none hb ha
    rw [upd_ne n1, del_ne n2, upd_ne n2, upd_ne n1, upd_ne n2]
    exact hb
theorem r_xf {σ : L2.St} {H : Hp} {Q : VK} {a C : Addr} {cls : Value} {d : Option Addr} {fld : Str} {te : TE} (q : te σ H fun x H1 => x = .ref a ∧ cls = .ref C ∧ ∃ (dd : Addr) (fs : List (Str × V)) (v : V), d = some dd ∧ H1 dd = some (.xd fs) ∧ fs.lookup fld = some v ∧ Q v H1) : tXf a cls d C fld te σ H Q := q
theorem op_eqK {X : Cx} {K : PySem.W.Frag} {k : Nat} {A : Around} (hr : Room k A) (e : X.K = K := by rfl) (e2 : X.A.units = A.units := by rfl) : OpR X (compareOp .Eq) (rEqD K) := by
  rw [← e]; exact op_eqD (by rw [e2]; exact hu64 hr)
theorem r_wAs {K : PySem.W.Frag} {c : Value} {i : Nat} {ts : Addr → Value → Option Addr → TS} {Wout : WX} {D : Ends} {cls : Value} {d : Option Addr} {σ : L2.St} {H : Hp} (k : PySem.W.exmOne K cls c = some true)
    (q : ∀ a, H a = none → ts a cls d { nx := fun σ' H' => D.nx (σ'.set i none) H', rt := D.rt, bk := fun σ' H' => D.bk (σ'.set i none) H', ct := fun σ' H' => D.ct (σ'.set i none) H' } (σ.set i (some (.ref a))) H) : WE (wAs K c i ts Wout D) σ cls d H :=
  ⟨true, k, fun _ => q, fun z => nomatch z⟩
/-- a pair unpacked into two names -/
theorem r_gtup2 {K : PySem.W.Frag} {σ : L2.St} {H : Hp} {a : Addr} {i j : Nat} {x y : V} {Q : L2.St → Hp → Prop} (h : SqT K H a [x, y]) (q : Q ((σ.set i (some x)).set j (some y)) H) : gTup K 2 (gCons (gName i) (gCons (gName j) gNil)) (.ref a) σ H Q :=
  ⟨a, [x, y], rfl, h, rfl, x, [y], rfl, y, [], rfl, rfl, q⟩
end Fg

set_option Elab.async false
set_option linter.all false
set_option maxRecDepth 100000
set_option maxHeartbeats 4000000
namespace Fg
open PySem PySem.Spec PyProof.Rows L2
/-! ### what the top has written -/
section
variable {K : PySem.W.Frag} {h : Heap} {mg : Str → Option Value}
theorem defd_mk {x : Str} {st : Stmt} {ps : List Str} {f : Addr} {oc : Value} {od an : Option Addr} {osl : Array (Option Value)} {kV doc pm cdv ct : Value} (X : K.In h) (G : h.Ns mainGlobals mg)
    (a : PySem.W.nsIn K mainGlobals x = some (some (.ref f)))
    (l : K.lookup f = some ⟨oc, od, .func (PySem.W.fnOf x x (defArgs st) (defBody st) (defScope st) .none kV doc pm an cdv ct), osl⟩)
    (c : PySem.W.codeIn K cdv x = true) (k : PySem.W.keepIn K (.ref f) = true)
    (b : ∀ (kV doc pm : Value) (an : Option Addr) (cdv ct : Value) (us : List Value), us.length = ps.length → bindArgs (PySem.W.fnOf x x (defArgs st) (defBody st) (defScope st) .none kV doc pm an cdv ct) ⟨us, []⟩ = pure (ps.zip us)) : Defd K mg x st ps :=
  ⟨f, _, fun_mk l c k, PySem.W.mg_of X G a, (fun_mk l c k).binds b⟩
theorem lawd_mk {x p : Str} {st : Stmt} {f : Addr} {oc : Value} {od an : Option Addr} {osl : Array (Option Value)} {kV doc pm cdv ct : Value} (X : K.In h) (G : h.Ns mainGlobals mg)
    (a : PySem.W.nsIn K mainGlobals x = some (some (.ref f)))
    (l : K.lookup f = some ⟨oc, od, .func (PySem.W.fnOf x x (defArgs st) (defBody st) (defScope st) .none kV doc pm an cdv ct), osl⟩)
    (c : PySem.W.codeIn K cdv x = true) (k : PySem.W.keepIn K (.ref f) = true)
    (b : ∀ (kV doc pm : Value) (an : Option Addr) (cdv ct : Value) (us : List Value), us.length = [p].length → bindArgs (PySem.W.fnOf x x (defArgs st) (defBody st) (defScope st) .none kV doc pm an cdv ct) ⟨us, []⟩ = pure ([p].zip us)) :
    ∃ (f : Addr) (fd : FuncData), (∀ (s : Shared) (u : Value), BindsTo s fd ⟨[u], []⟩ [(p, u)]) ∧ Fun K x x st f fd ∧ mg x = some (.ref f) :=
  ⟨f, _, fun s u => .of_eq (b _ _ _ _ _ _ [u] rfl), fun_mk l c k, PySem.W.mg_of X G a⟩
theorem const_mk {x : Str} {v : Value} {y : V} (X : K.In h) (G : h.Ns mainGlobals mg) (a : PySem.W.nsIn K mainGlobals x = some (some v)) (e : RelV y v) : ∃ u, mg x = some u ∧ RelV y u := ⟨v, PySem.W.mg_of X G a, e⟩
theorem bi_mk (X : K.In h) (G : h.Ns mainGlobals mg) (z0 : PySem.W.nsIn K mainGlobals "len" = some none) (z1 : PySem.W.nsIn K mainGlobals "int" = some none) (z2 : PySem.W.nsIn K mainGlobals "str" = some none) (z3 : PySem.W.nsIn K mainGlobals "bool" = some none) (z4 : PySem.W.nsIn K mainGlobals "list" = some none) (z5 : PySem.W.nsIn K mainGlobals "tuple" = some none) (z6 : PySem.W.nsIn K mainGlobals "sum" = some none) (z7 : PySem.W.nsIn K mainGlobals "abs" = some none) (z8 : PySem.W.nsIn K mainGlobals "min" = some none) (z9 : PySem.W.nsIn K mainGlobals "max" = some none) (z10 : PySem.W.nsIn K mainGlobals "sorted" = some none) (z11 : PySem.W.nsIn K mainGlobals "all" = some none) (z12 : PySem.W.nsIn K mainGlobals "any" = some none) (z13 : PySem.W.nsIn K mainGlobals "isinstance" = some none) (z14 : PySem.W.nsIn K mainGlobals "range" = some none) (z15 : PySem.W.nsIn K mainGlobals "enumerate" = some none) (z16 : PySem.W.nsIn K mainGlobals "zip" = some none) (z17 : PySem.W.nsIn K mainGlobals "ValueError" = some none) : Bi mg :=
  ⟨PySem.W.mg_none_of X G z0, PySem.W.mg_none_of X G z1, PySem.W.mg_none_of X G z2, PySem.W.mg_none_of X G z3, PySem.W.mg_none_of X G z4, PySem.W.mg_none_of X G z5, PySem.W.mg_none_of X G z6, PySem.W.mg_none_of X G z7, PySem.W.mg_none_of X G z8, PySem.W.mg_none_of X G z9, PySem.W.mg_none_of X G z10, PySem.W.mg_none_of X G z11, PySem.W.mg_none_of X G z12, PySem.W.mg_none_of X G z13, PySem.W.mg_none_of X G z14, PySem.W.mg_none_of X G z15, PySem.W.mg_none_of X G z16, PySem.W.mg_none_of X G z17⟩
/-- what the written part says of a class of errors with its own __init__ -/
structure ErrC (K : PySem.W.Frag) (x qual fld : Str) (st : Stmt) (ps : List Str) (C : Addr) : Prop where
  ns : PySem.W.nsIn K mainGlobals x = some (some (.ref C))
  o : OexC K C
  xf : XfC K C
  xc : ExcC K C
  noN : PySem.W.findIn K (.ref C) fld = some none
  ini : ∃ (fI : Addr) (fd : FuncData), PySem.W.findIn K (.ref C) "__init__" = some (some (.ref fI)) ∧ PySem.W.typeIn K (.ref fI) = some (.type "function") ∧ Fun K "__init__" qual st fI fd ∧ Binds K fd ps []
theorem err_mk {P : Program} {w : World} {base : Heap} {x qual fld : Str} {st : Stmt} {ps : List Str} {C : Addr} (X : K.In h) (G : h.Ns mainGlobals mg) (e : ErrC K x qual fld st ps C)
    (F : ∀ fI fd, Fun K "__init__" qual st fI fd → FnOk P w K mg base L2.CX0 1 fI fd ps (spInit C fld)) : Err P w K mg base x C fld := by
  obtain ⟨fI, fd, h1, h2, h3, h4⟩ := e.ini
  exact ⟨PySem.W.mg_of X G e.ns, e.o, e.xf, e.xc, e.noN, fI, fd, ps, h1, h2, F fI fd h3, h4⟩
theorem defd_do {R : Prop} (X : K.In h) (G : h.Ns mainGlobals mg) (x : Str) (st : Stmt) (ps : List Str) {f : Addr} {oc : Value} {od an : Option Addr} {osl : Array (Option Value)} {kV doc pm cdv ct : Value}
    (a : PySem.W.nsIn K mainGlobals x = some (some (.ref f)))
    (l : K.lookup f = some ⟨oc, od, .func (PySem.W.fnOf x x (defArgs st) (defBody st) (defScope st) .none kV doc pm an cdv ct), osl⟩)
    (c : PySem.W.codeIn K cdv x = true) (k : PySem.W.keepIn K (.ref f) = true)
    (b : ∀ (kV doc pm : Value) (an : Option Addr) (cdv ct : Value) (us : List Value), us.length = ps.length → bindArgs (PySem.W.fnOf x x (defArgs st) (defBody st) (defScope st) .none kV doc pm an cdv ct) ⟨us, []⟩ = pure (ps.zip us))
    (n : Defd K mg x st ps → R) : R := n (defd_mk X G a l c k b)
theorem lawd_do {R : Prop} (X : K.In h) (G : h.Ns mainGlobals mg) (x : Str) (st : Stmt) (p : Str) {f : Addr} {oc : Value} {od an : Option Addr} {osl : Array (Option Value)} {kV doc pm cdv ct : Value}
    (a : PySem.W.nsIn K mainGlobals x = some (some (.ref f)))
    (l : K.lookup f = some ⟨oc, od, .func (PySem.W.fnOf x x (defArgs st) (defBody st) (defScope st) .none kV doc pm an cdv ct), osl⟩)
    (c : PySem.W.codeIn K cdv x = true) (k : PySem.W.keepIn K (.ref f) = true)
    (b : ∀ (kV doc pm : Value) (an : Option Addr) (cdv ct : Value) (us : List Value), us.length = [p].length → bindArgs (PySem.W.fnOf x x (defArgs st) (defBody st) (defScope st) .none kV doc pm an cdv ct) ⟨us, []⟩ = pure ([p].zip us))
    (n : ∀ (f : Addr) (fd : FuncData), (∀ (s : Shared) (u : Value), BindsTo s fd ⟨[u], []⟩ [(p, u)]) → Fun K x x st f fd → mg x = some (.ref f) → R) : R := by
  obtain ⟨f, fd, h1, h2, h3⟩ := lawd_mk X G a l c k b
  exact n f fd h1 h2 h3
theorem errc_do {R : Prop} (X : K.In h) (x qual fld : Str) (st : Stmt) (ps : List Str) {nm q : Str} {C f N : Addr} {bs bm sub : List Value} {sn : List Str} {ab : Bool} {col : Option Bool} {dd : Option Addr} {k0 k1 k2 k3 k5 : Option Value} {oc : Value} {od an : Option Addr} {osl : Array (Option Value)} {kV doc pm cdv ct : Value}
    (a1 : PySem.W.nsIn K mainGlobals x = some (some (.ref C)))
    (a2 : K.lookup C = some (excClassObj nm q C N bs bm true sn sub ab col dd k0 k1 k2 k3 k5 "ValueError.__new__"))
    (a4 : PySem.W.findIn K (.ref C) "__setattr__" = some (some (.builtin "object.__setattr__")))
    (a5 : PySem.W.subIn K (.ref C) (.type "BaseException") = some true) (a6 : PySem.W.typeIn K (.ref C) = some (.type "type")) (a7 : PySem.W.keepIn K (.ref C) = true)
    (a8 : PySem.W.findIn K (.ref C) "__getattribute__" = some (some (.builtin "BaseException.__getattribute__"))) (a9 : PySem.W.findIn K (.ref C) "__getattr__" = some none)
    (b1 : PySem.W.hasDictIn K C = true) (b2 : PySem.W.findIn K (.ref C) "__class__" = some (some (.builtin "object.__class__")))
    (b3 : PySem.W.specialIn K (.builtin "object.__class__") "__get__" = some (some (.builtin "getset_descriptor.__get__"))) (b4 : PySem.W.takesIn K (.builtin "object.__class__") = some true)
    (b5 : PySem.W.mroIn K C (.type "object") = some true) (b6 : PySem.W.findIn K (.ref C) fld = some none)
    (b7 : PySem.W.findIn K (.ref C) "__init__" = some (some (.ref f))) (b8 : PySem.W.typeIn K (.ref f) = some (.type "function"))
    (b9 : K.lookup f = some ⟨oc, od, .func (PySem.W.fnOf "__init__" qual (defArgs st) (defBody st) (defScope st) .none kV doc pm an cdv ct), osl⟩)
    (c1 : PySem.W.codeIn K cdv qual = true) (c2 : PySem.W.keepIn K (.ref f) = true)
    (b : ∀ (kV doc pm : Value) (an : Option Addr) (cdv ct : Value) (us : List Value), us.length = ps.length → bindArgs (PySem.W.fnOf "__init__" qual (defArgs st) (defBody st) (defScope st) .none kV doc pm an cdv ct) ⟨us, []⟩ = pure (ps.zip us))
    (a3 : PySem.HandSPX.refsVE bm = true) (n : ErrC K x qual fld st ps C → R) : R := by
  refine n ⟨a1, ⟨⟨nm, q, N, bs, bm, sn, sub, ab, col, dd, k0, k1, k2, k3, k5, a2, a3⟩, a4, a5, a6, a7⟩, ⟨a8, a9, a5, b1⟩, ⟨a8, a9, a5, b1, b2, b3, b4, b5⟩, b6, f, _, b7, b8, fun_mk b9 c1 c2, (fun_mk b9 c1 c2).binds b⟩
theorem bi_do {R : Prop} (X : K.In h) (G : h.Ns mainGlobals mg) (z0 : PySem.W.nsIn K mainGlobals "len" = some none) (z1 : PySem.W.nsIn K mainGlobals "int" = some none) (z2 : PySem.W.nsIn K mainGlobals "str" = some none) (z3 : PySem.W.nsIn K mainGlobals "bool" = some none) (z4 : PySem.W.nsIn K mainGlobals "list" = some none) (z5 : PySem.W.nsIn K mainGlobals "tuple" = some none) (z6 : PySem.W.nsIn K mainGlobals "sum" = some none) (z7 : PySem.W.nsIn K mainGlobals "abs" = some none) (z8 : PySem.W.nsIn K mainGlobals "min" = some none) (z9 : PySem.W.nsIn K mainGlobals "max" = some none) (z10 : PySem.W.nsIn K mainGlobals "sorted" = some none) (z11 : PySem.W.nsIn K mainGlobals "all" = some none) (z12 : PySem.W.nsIn K mainGlobals "any" = some none) (z13 : PySem.W.nsIn K mainGlobals "isinstance" = some none) (z14 : PySem.W.nsIn K mainGlobals "range" = some none) (z15 : PySem.W.nsIn K mainGlobals "enumerate" = some none) (z16 : PySem.W.nsIn K mainGlobals "zip" = some none) (z17 : PySem.W.nsIn K mainGlobals "ValueError" = some none) (n : Bi mg → R) : R := n (bi_mk X G z0 z1 z2 z3 z4 z5 z6 z7 z8 z9 z10 z11 z12 z13 z14 z15 z16 z17)
theorem glob_do {R : Prop} (X : K.In h) (G : h.Ns mainGlobals mg) (x : Str) {v : Value} (a : PySem.W.nsIn K mainGlobals x = some (some v)) (n : mg x = some v → R) : R := n (PySem.W.mg_of X G a)
end
theorem exm_mk {K : PySem.W.Frag} {C S : Addr} (h1 : PySem.W.subIn K (.ref S) (.type "BaseException") = some true) (h2 : PySem.W.isClsIn K S = true) (h3 : PySem.W.typeIn K (.ref S) = some (.type "type")) (h4 : PySem.W.subIn K (.ref C) (.ref S) = some true) :
    PySem.W.exmOne K (.ref C) (.ref S) = some true := by
  have e1 : (PySem.W.subIn K (.ref S) (.type "BaseException") == some true) = true := by rw [h1] <;> rfl
  have e2 : ((PySem.W.clsIn K S).isSome && PySem.W.typeIn K (.ref S) == some (.type "type")) = true := by
    have h2' : (PySem.W.clsIn K S).isSome = true := h2
    rw [h2', h3] <;> rfl
  show (if (PySem.W.subIn K (.ref S) (.type "BaseException") == some true) = true then (if ((PySem.W.clsIn K S).isSome && PySem.W.typeIn K (.ref S) == some (.type "type")) = true then PySem.W.subIn K (.ref C) (.ref S) else none) else none) = some true
  rw [if_pos e1, if_pos e2]
  exact h4
theorem r_ost {K : PySem.W.Frag} {σ : L2.St} {H : Hp} {D : Ends} {a C : Addr} {fld : Str} {i j : Nat} {v : V} (hi : σ[i]? = some (some (.ref a))) (hj : σ[j]? = some (some v)) (o : OexC K C) (n : PySem.W.findIn K (.ref C) fld = some none) (h : H a = some (exo a C none))
    (q : ∀ dx, H dx = none → dx ≠ a → D.nx σ (upd (upd H dx (exd dx [(fld, v)])) a (exo a C (some dx)))) : tOst K fld (tVar i) (tVar j) D σ H :=
  ⟨v, hj, .ref a, hi, a, C, rfl, o, n, .inl ⟨h, q⟩⟩
end Fg

set_option Elab.async false
set_option linter.all false
set_option maxRecDepth 100000
set_option maxHeartbeats 4000000
namespace Fg
open PySem PySem.Spec PyProof.Rows L2
/-! ### lcm, int(digits) -/
def rLcm : List V → Hp → VK → Prop := fun vs H Q => ∃ a b : Nat, vs = [.int (a : Int), .int (b : Int)] ∧ a < 2 ^ 13000 ∧ b < 2 ^ 13000 ∧ Q (.int ((Nat.lcm a b : Nat) : Int)) H
theorem log_lt {n k : Nat} (h : n < 2 ^ k) (hk : 0 < k) : n.log2 < k := by
  by_cases h0 : n = 0
  · subst h0; rw [Nat.log2_zero]; exact hk
  · exact (Nat.log2_lt h0).mpr h
theorem cr_lcm {X : Cx} : CallR X (.builtin "math.lcm") rLcm := by
  intro pins s σ H vs us Q I r h
  obtain ⟨a, b, rfl, ha, hb, q⟩ := h
  obtain ⟨t, u, rfl⟩ := Vals.int2 r
  have e1 : Nat.lcm 1 ((a : Int)).natAbs = a := by rw [Int.natAbs_natCast, Nat.lcm_one_left]
  have l1 : a.log2 < 13000 := log_lt ha (by decide)
  have l2 : b.log2 < 13000 := log_lt hb (by decide)
  have hm : ∀ x y : Nat, x.log2 < 13000 → y.log2 < 13000 → ¬ (max x y).log2 / 30 + 1 > 450 := by
    intro x y hx hy
    rcases Nat.le_total x y with z | z
    · rw [Nat.max_eq_right z]; omega
    · rw [Nat.max_eq_left z]; omega
  have hl : (Nat.lcm a b).log2 < bitsLine := by
    have h1 : Nat.lcm a b ≤ a * b := by
      by_cases hz : a * b = 0
      · rcases Nat.mul_eq_zero.mp hz with z | z <;> subst z <;> simp
      · exact Nat.le_of_dvd (Nat.pos_of_ne_zero hz) (Nat.lcm_dvd_mul a b)
    have h2 : a * b < 2 ^ 26000 := by
      have := Nat.mul_lt_mul'' ha hb
      rwa [← Nat.pow_add] at this
    exact Nat.lt_of_lt_of_le (log_lt (Nat.lt_of_le_of_lt h1 h2) (by decide)) (by decide)
  have g := PySem.W.mg_run_lcm (a : Int) t (b : Int) u (by rw [Int.natAbs_natCast]; exact hm 1 a (by decide) l1) (by rw [Int.natAbs_natCast, Int.natAbs_natCast]; exact hm a b l1 l2) (by rw [e1, Int.natAbs_natCast, Int.natAbs_natCast]; exact hl)
  rw [e1, Int.natAbs_natCast] at g
  exact PySem.call_function_meets PySem.W.MGF.kind_lcm PySem.W.MGF.plain_lcm PySem.W.MGF.entry_lcm (PySem.W.MGF.args_lcm _ _) g.meets ⟨.int _, H, I.tok _, ⟨_, rfl⟩, q⟩
def dval (l : List Nat) : Nat := l.foldl (fun a c => 10 * a + (c - 48)) 0
theorem dig3 : ∀ a b c : Fin 10, PySem.intText? (S [48 + a.val, 48 + b.val, 48 + c.val]) = some ((100 * a.val + 10 * b.val + c.val : Nat) : Int) := by decide +kernel
theorem dig2 : ∀ a b : Fin 10, PySem.intText? (S [48 + a.val, 48 + b.val]) = some ((10 * a.val + b.val : Nat) : Int) := by decide +kernel
theorem dig1 : ∀ a : Fin 10, PySem.intText? (S [48 + a.val]) = some ((a.val : Nat) : Int) := by decide +kernel
def isDig (c : Nat) : Bool := decide (48 ≤ c ∧ c ≤ 57)
theorem dig_of {c : Nat} (h : isDig c = true) : ∃ a : Fin 10, c = 48 + a.val := by
  have h := of_decide_eq_true h
  exact ⟨⟨c - 48, by omega⟩, by show c = 48 + (c - 48); omega⟩
theorem int_digits {l : List Nat} (h1 : l ≠ []) (h3 : l.length ≤ 3) (hd : ∀ c ∈ l, isDig c = true) : PySem.intText? (S l) = some ((dval l : Nat) : Int) := by
  match l, h1, h3, hd with
  | [a], _, _, hd =>
    obtain ⟨x, rfl⟩ := dig_of (hd a (by simp))
    rw [dig1 x]
    congr 2
    show x.val = 10 * 0 + (48 + x.val - 48)
    omega
  | [a, b], _, _, hd =>
    obtain ⟨x, rfl⟩ := dig_of (hd a (by simp))
    obtain ⟨y, rfl⟩ := dig_of (hd b (by simp))
    rw [dig2 x y]
    congr 2
    show 10 * x.val + y.val = 10 * (10 * 0 + (48 + x.val - 48)) + (48 + y.val - 48)
    omega
  | [a, b, c], _, _, hd =>
    obtain ⟨x, rfl⟩ := dig_of (hd a (by simp))
    obtain ⟨y, rfl⟩ := dig_of (hd b (by simp))
    obtain ⟨z, rfl⟩ := dig_of (hd c (by simp))
    rw [dig3 x y z]
    congr 2
    show 100 * x.val + 10 * y.val + z.val = 10 * (10 * (10 * 0 + (48 + x.val - 48)) + (48 + y.val - 48)) + (48 + z.val - 48)
    omega
  | _ :: _ :: _ :: _ :: _, _, h3, _ => exact absurd h3 (by simp)
end Fg

set_option Elab.async false
set_option linter.all false
set_option maxRecDepth 100000
set_option maxHeartbeats 4000000
namespace Rt
open Fg
/-! ### rhythm texts as they are read: what is left, beats, row; an error: how much is left there -/
abbrev Got := List Nat × Nat × List Nat
abbrev Res := Except Nat Got
def isSg (c : Nat) : Bool := decide (c = 46 ∨ c = 103 ∨ c = 114 ∨ c = 119)
def kept (b : Nat) (r : List Nat) : List Nat := if b ≤ 24 then r else []
def dsOf (s : List Nat) : List Nat := s.takeWhile isDig
def rsOf (s : List Nat) : List Nat := s.dropWhile isDig
def rep (t : Nat) (r : List Nat) : List Nat := (List.replicate t r).flatten
def grp (inner : Option (List Nat → Res)) (t : Nat) (r : List Nat) : Res := match inner with
  | none => .error (r.length + 1)
  | some f => match f r with
    | .error e => .error e
    | .ok (r2, b, row) => .ok (r2.drop 1, t * b, kept (t * b) (rep t row))
def rdItem (inner : Option (List Nat → Res)) (s : List Nat) : Res :=
  match dsOf s with
  | [] => .ok (s.drop 1, 1, s.take 1)
  | d :: ds =>
    if d = 48 then .error s.length
    else match rsOf s with
      | [] => .error 0
      | c :: r =>
        if isSg c = true then (if 2 ≤ dval ((d :: ds).take 3) ∧ dval ((d :: ds).take 3) ≤ 24 then .ok (r, dval ((d :: ds).take 3), List.replicate (dval ((d :: ds).take 3)) c) else .error s.length)
        else if c = 40 then
          (if 2 ≤ dval ((d :: ds).take 3) ∧ dval ((d :: ds).take 3) ≤ 24 then
            grp inner (dval ((d :: ds).take 3)) r
          else .error s.length)
        else .error (r.length + 1)
def goes (s : List Nat) : Bool := match s with
  | [] => false
  | c :: _ => isSg c || isDig c
def rdItems (item : List Nat → Res) : Nat → List Nat → Nat → List Nat → Res
  | 0, s, b, r => .ok (s, b, r)
  | n + 1, s, b, r => if goes s = true then
      match item s with
      | .error e => .error e
      | .ok (s2, m, g) => rdItems item n s2 (b + m) (kept (b + m) (r ++ g))
    else .ok (s, b, r)
def rdWhole (s : List Nat) (b : Nat) (row : List Nat) : Res := match dsOf s with
  | [] => .error s.length
  | d :: ds => if d = 48 then .error s.length else
    if b ≤ dval ((d :: ds).take 3) ∧ dval ((d :: ds).take 3) ≤ 24 then .ok (rsOf s, dval ((d :: ds).take 3), row ++ List.replicate (dval ((d :: ds).take 3) - b) 46) else .error s.length
def rdPart (item : List Nat → Res) (s : List Nat) : Res := match rdItems item s.length s 0 [] with
  | .error e => .error e
  | .ok (s2, b, r) => if b = 0 then .error s2.length else
    match s2 with
    | [] => .ok (s2, b, r)
    | c :: s3 => if c = 64 then rdWhole s3 b r else .ok (s2, b, r)
def tog (b : Nat) (r : List Nat) (b2 : Nat) (r2 : List Nat) : List Nat :=
  if Nat.lcm b b2 ≤ 24 then (List.range (Nat.lcm b b2)).map fun i => if (r[i % b]?).getD 0 = 46 then (r2[i % b2]?).getD 0 else (r[i % b]?).getD 0 else []
def rdJoin (part : List Nat → Res) : Nat → List Nat → Nat → List Nat → Res
  | 0, s, b, r => .ok (s, b, r)
  | n + 1, s, b, r => match s with
    | [] => .ok (s, b, r)
    | c :: s2 => if c = 38 then
        match part s2 with
        | .error e => .error e
        | .ok (s3, b2, r2) => rdJoin part n s3 (Nat.lcm b b2) (tog b r b2 r2)
      else .ok (s, b, r)
def endOf : Bool → List Nat
  | true => []
  | false => [41]
def rdParts (part : List Nat → Res) (top : Bool) (s : List Nat) : Res := match part s with
  | .error e => .error e
  | .ok (s2, b, r) => match rdJoin part s2.length s2 b r with
    | .error e => .error e
    | .ok (s3, b3, r3) => if s3.take 1 = endOf top then .ok (s3, b3, r3) else .error s3.length
def rdAt : Nat → Bool → List Nat → Res
  | 0, top, s => rdParts (rdPart (rdItem none)) top s
  | n + 1, top, s => rdParts (rdPart (rdItem (some (rdAt n false)))) top s
def innerOf : Nat → Option (List Nat → Res)
  | 0 => none
  | n + 1 => some (rdAt n false)
theorem rdAt_eq (n : Nat) (top : Bool) (s : List Nat) : rdAt n top s = rdParts (rdPart (rdItem (innerOf n))) top s := by cases n <;> rfl

/-! ### what is got: a rest, beats that are not too many, a row of as many signs -/
structure Fine (s : List Nat) (g : Got) : Prop where
  suf : ∃ k, 1 ≤ k ∧ k ≤ s.length ∧ g.1 = s.drop k ∧ g.2.1 ≤ 2 ^ (6 * k)
  pos : 1 ≤ g.2.1
  row : g.2.1 ≤ 24 → g.2.2.length = g.2.1 ∧ ∀ c ∈ g.2.2, isSg c = true
  non : 24 < g.2.1 → g.2.2 = []
def Ok (f : List Nat → Res) (when : List Nat → Prop) : Prop := ∀ s g, when s → f s = .ok g → Fine s g
theorem two_add {a b : Nat} (ha : 2 ≤ a) (hb : 2 ≤ b) : a + b ≤ a * b := by
  obtain ⟨x, rfl⟩ : ∃ x, a = x + 2 := ⟨a - 2, by omega⟩
  obtain ⟨y, rfl⟩ : ∃ y, b = y + 2 := ⟨b - 2, by omega⟩
  have : (x + 2) * (y + 2) = x * y + 2 * x + 2 * y + 4 := by
    rw [Nat.add_mul, Nat.mul_add, Nat.mul_add]; omega
  omega
theorem pow_split {a b : Nat} : 2 ^ (6 * (a + b)) = 2 ^ (6 * a) * 2 ^ (6 * b) := by rw [Nat.mul_add, Nat.pow_add]
theorem pow_two {k : Nat} (h : 1 ≤ k) : 64 ≤ 2 ^ (6 * k) := by
  obtain ⟨x, rfl⟩ : ∃ x, k = 1 + x := ⟨k - 1, by omega⟩
  rw [pow_split]
  have : 1 ≤ 2 ^ (6 * x) := Nat.one_le_two_pow
  calc 64 = 2 ^ (6 * 1) * 1 := by decide
    _ ≤ _ := Nat.mul_le_mul_left _ this
theorem ds_rs (s : List Nat) : dsOf s ++ rsOf s = s := List.takeWhile_append_dropWhile
theorem rs_drop (s : List Nat) : rsOf s = s.drop (dsOf s).length := by
  have h := ds_rs s
  conv => rhs; rw [← h]
  rw [h]
  have : s = dsOf s ++ rsOf s := h.symm
  conv => rhs; arg 2; rw [this]
  rw [List.drop_left]
theorem tw_mem {p : Nat → Bool} : ∀ (s : List Nat) (c : Nat), c ∈ s.takeWhile p → p c = true
  | [], c, h => by cases h
  | x :: r, c, h => by
    rw [List.takeWhile_cons] at h
    split at h
    · rcases List.mem_cons.mp h with rfl | h
      · assumption
      · exact tw_mem r c h
    · cases h
theorem ds_dig (s : List Nat) : ∀ c ∈ dsOf s, isDig c = true := fun c h => tw_mem s c h
theorem len_rs (s : List Nat) : (dsOf s).length + (rsOf s).length = s.length := by
  rw [← List.length_append, ds_rs]
theorem rep_len (t : Nat) (r : List Nat) : (rep t r).length = t * r.length := by
  unfold rep
  induction t with
  | zero => simp
  | succ t ih => rw [List.replicate_succ, List.flatten_cons, List.length_append, ih, Nat.succ_mul]; omega
theorem rep_mem {t : Nat} {r : List Nat} {c : Nat} (h : c ∈ rep t r) : c ∈ r := by
  obtain ⟨l, h1, h2⟩ := List.mem_flatten.mp h
  rw [List.eq_of_mem_replicate h1] at h2
  exact h2
theorem ok_item {inner : Option (List Nat → Res)} (hi : ∀ f, inner = some f → ∀ s g, f s = .ok g → Fine s g ∧ g.1 ≠ []) : Ok (rdItem inner) (fun s => goes s = true) := by
  intro s g hg h
  unfold rdItem at h
  have hl := len_rs s
  have hd := rs_drop s
  split at h
  · rename_i hds
    cases h
    cases s with
    | nil => cases hg
    | cons c r =>
      refine ⟨⟨1, Nat.le_refl _, by simp, rfl, by show (1 : Nat) ≤ 2 ^ (6 * 1); decide⟩, Nat.le_refl _, fun _ => ⟨rfl, fun x hx => ?_⟩, fun z => absurd z (by show ¬ 24 < 1; decide)⟩
      have hx2 : x = c := by simpa using hx
      subst hx2
      have g2 : (isSg x || isDig x) = true := hg
      rcases Bool.or_eq_true_iff.mp g2 with z | z
      · exact z
      · unfold dsOf at hds
        rw [List.takeWhile_cons, z] at hds
        cases hds
  · rename_i d ds hds
    rw [hds] at hl hd
    rw [List.length_cons] at hl
    split at h
    · cases h
    · split at h
      · cases h
      · rename_i c r hrs
        rw [hrs] at hl hd
        rw [List.length_cons] at hl hd
        generalize dval ((d :: ds).take 3) = t at h
        have hr : r = s.drop (ds.length + 2) := by
          have e : (c :: r).drop 1 = (s.drop (ds.length + 1)).drop 1 := by rw [hd]
          rw [List.drop_drop] at e
          simpa using e
        split at h
        · rename_i hsg
          split at h
          · rename_i ht
            cases h
            refine ⟨⟨ds.length + 2, by omega, by omega, hr, ?_⟩, by show 1 ≤ t; omega, fun _ => ⟨List.length_replicate, fun x hx => by rw [List.eq_of_mem_replicate hx]; exact hsg⟩, fun z => absurd z (by show ¬ 24 < t; omega)⟩
            have := pow_two (k := ds.length + 2) (by omega)
            show t ≤ _
            omega
          · cases h
        · split at h
          · split at h
            · rename_i ht
              unfold grp at h
              split at h
              · cases h
              · rename_i f
                split at h
                · cases h
                · rename_i r2 b row hf
                  cases h
                  obtain ⟨F, ne⟩ := hi f rfl _ _ hf
                  obtain ⟨k, k1, k2, k3, k4⟩ := F.suf
                  have k3' : r2 = r.drop k := k3
                  have k4' : b ≤ 2 ^ (6 * k) := k4
                  have p1 : 1 ≤ b := F.pos
                  have kl : k < r.length := by
                    rcases Nat.lt_or_ge k r.length with z | z
                    · exact z
                    · exact absurd (by show r2 = []; rw [k3', List.drop_eq_nil_of_le z]) ne
                  refine ⟨⟨ds.length + 2 + (k + 1), by omega, by omega, ?_, ?_⟩, ?_, ?_, ?_⟩
                  · show r2.drop 1 = _
                    rw [k3', hr, List.drop_drop, List.drop_drop, Nat.add_assoc]
                  · show t * b ≤ _
                    rw [show ds.length + 2 + (k + 1) = (ds.length + 3) + k by omega, pow_split]
                    refine Nat.mul_le_mul ?_ k4'
                    have := pow_two (k := ds.length + 3) (by omega)
                    omega
                  · show 1 ≤ t * b
                    exact Nat.mul_pos (by omega) p1
                  · intro hz
                    have hz' : t * b ≤ 24 := hz
                    have hb : b ≤ 24 := Nat.le_trans (Nat.le_mul_of_pos_left b (by omega)) hz'
                    obtain ⟨e1, e2⟩ := F.row hb
                    show (kept (t * b) (rep t row)).length = t * b ∧ _
                    unfold kept
                    rw [if_pos hz']
                    exact ⟨by rw [rep_len]; show t * row.length = _; rw [show row.length = b from e1], fun x hx => e2 x (rep_mem hx)⟩
                  · intro hz
                    have hz' : ¬ t * b ≤ 24 := Nat.not_le.mpr hz
                    show kept (t * b) (rep t row) = []
                    unfold kept
                    rw [if_neg hz']
            · cases h
          · cases h
/-- so far in a part: k signs gone, b beats -/
structure Far (s0 : List Nat) (s : List Nat) (b : Nat) (r : List Nat) : Prop where
  suf : ∃ k, k ≤ s0.length ∧ s = s0.drop k ∧ (k = 0 → b = 0) ∧ b ≤ 2 ^ (6 * k) ∧ (1 ≤ k → 1 ≤ b)
  row : b ≤ 24 → r.length = b ∧ ∀ c ∈ r, isSg c = true
  non : 24 < b → r = []
theorem far_step {s0 s s2 : List Nat} {b m : Nat} {r g : List Nat} (F : Far s0 s b r) (G : Fine s (s2, m, g)) : Far s0 s2 (b + m) (kept (b + m) (r ++ g)) ∧ s2.length < s.length := by
  obtain ⟨k, k1, k2, k3, k4, k5⟩ := F.suf
  obtain ⟨j, j1, j2, j3, j4⟩ := G.suf
  have j3' : s2 = s.drop j := j3
  have j4' : m ≤ 2 ^ (6 * j) := j4
  have p1 : 1 ≤ m := G.pos
  have sl : s.length = s0.length - k := by rw [k2, List.length_drop]
  refine ⟨⟨⟨k + j, by omega, by rw [j3', k2, List.drop_drop], fun z => by omega, ?_, fun _ => by omega⟩, ?_, ?_⟩, ?_⟩
  · rw [pow_split]
    rcases Nat.eq_zero_or_pos k with z | z
    · subst z
      rw [k3 rfl, Nat.zero_add]
      show m ≤ 1 * _
      omega
    · have h1 := pow_two z
      have h2 := pow_two j1
      have h3 := two_add (a := 2 ^ (6 * k)) (b := 2 ^ (6 * j)) (by omega) (by omega)
      omega
  · intro h
    obtain ⟨e1, e2⟩ := F.row (by omega)
    obtain ⟨e3, e4⟩ := G.row (by show m ≤ 24; omega)
    unfold kept
    rw [if_pos h]
    refine ⟨by rw [List.length_append, e1]; show b + g.length = _; rw [show g.length = m from e3], fun c hc => ?_⟩
    rcases List.mem_append.mp hc with hc | hc
    · exact e2 c hc
    · exact e4 c hc
  · intro h
    unfold kept
    rw [if_neg (by omega)]
  · rw [j3', List.length_drop]
    omega
theorem far_items {item : List Nat → Res} (hi : Ok item (fun s => goes s = true)) {s0 : List Nat} : ∀ (n : Nat) (s : List Nat) (b : Nat) (r : List Nat) (g : Got), Far s0 s b r → rdItems item n s b r = .ok g → Far s0 g.1 g.2.1 g.2.2
  | 0, s, b, r, g, F, h => by
    cases h
    exact F
  | n + 1, s, b, r, g, F, h => by
    unfold rdItems at h
    split at h
    · rename_i hg
      split at h
      · cases h
      · rename_i s2 m x hx
        exact far_items hi n _ _ _ g (far_step F (hi s _ hg hx)).1 h
    · cases h
      exact F
theorem far_start (s : List Nat) : Far s s 0 [] := ⟨⟨0, Nat.zero_le _, rfl, fun _ => rfl, Nat.zero_le _, fun z => absurd z (by decide)⟩, fun _ => ⟨rfl, fun c h => nomatch h⟩, fun z => absurd z (by decide)⟩
theorem far_fine {s0 s : List Nat} {b : Nat} {r : List Nat} (F : Far s0 s b r) (hb : b ≠ 0) : Fine s0 (s, b, r) := by
  obtain ⟨k, k1, k2, k3, k4, k5⟩ := F.suf
  have hk : 1 ≤ k := Nat.pos_of_ne_zero fun z => hb (k3 z)
  exact ⟨⟨k, hk, k1, k2, k4⟩, Nat.pos_of_ne_zero hb, F.row, F.non⟩
theorem ok_part {item : List Nat → Res} (hi : Ok item (fun s => goes s = true)) : Ok (rdPart item) (fun _ => True) := by
  intro s g _ h
  unfold rdPart at h
  split at h
  · cases h
  · rename_i s2 b r hr
    have F := far_items hi _ _ _ _ _ (far_start s) hr
    split at h
    · cases h
    · rename_i hb
      have G := far_fine F hb
      split at h
      · cases h
        exact G
      · rename_i c s3
        split at h
        · unfold rdWhole at h
          split at h
          · cases h
          · rename_i d ds hds
            split at h
            · cases h
            · split at h
              · rename_i hw
                cases h
                obtain ⟨k, k1, k2, k3, k4⟩ := G.suf
                have k3' : c :: s3 = s.drop k := k3
                have hl := len_rs s3
                have hd := rs_drop s3
                rw [hds] at hl hd
                rw [List.length_cons] at hl hd
                generalize dval ((d :: ds).take 3) = t at hw
                have sl : s3.length + 1 = s.length - k := by rw [← List.length_cons (a := c), k3', List.length_drop]
                have e3 : s3 = s.drop (k + 1) := by
                  have e : (c :: s3).drop 1 = (s.drop k).drop 1 := by rw [k3']
                  rw [List.drop_drop] at e
                  simpa using e
                have p1 : 1 ≤ b := G.pos
                refine ⟨⟨k + 1 + (ds.length + 1), by omega, by omega, ?_, ?_⟩, ?_, ?_, ?_⟩
                · show rsOf s3 = _
                  rw [hd, e3, List.drop_drop]
                · show t ≤ _
                  have := pow_two (k := k + 1 + (ds.length + 1)) (by omega)
                  omega
                · show 1 ≤ t
                  omega
                · intro _
                  obtain ⟨e1, e2⟩ := G.row (by show b ≤ 24; omega)
                  refine ⟨?_, fun x hx => ?_⟩
                  · show (r ++ List.replicate (t - b) 46).length = t
                    rw [List.length_append, show r.length = b from e1, List.length_replicate]
                    omega
                  · rcases List.mem_append.mp hx with hx | hx
                    · exact e2 x hx
                    · rw [List.eq_of_mem_replicate hx]
                      rfl
                · intro z
                  exact absurd z (by show ¬ 24 < t; omega)
              · cases h
        · cases h
          exact G
theorem getD_mem {r : List Nat} {i : Nat} (h : i < r.length) : (r[i]?).getD 0 ∈ r := by
  rw [List.getElem?_eq_getElem h]
  exact List.getElem_mem _
theorem lcm_le {a b : Nat} (ha : 1 ≤ a) (hb : 1 ≤ b) : a ≤ Nat.lcm a b ∧ b ≤ Nat.lcm a b ∧ 1 ≤ Nat.lcm a b ∧ Nat.lcm a b ≤ a * b := by
  have p : 0 < Nat.lcm a b := Nat.lcm_pos ha hb
  exact ⟨Nat.le_of_dvd p (Nat.dvd_lcm_left a b), Nat.le_of_dvd p (Nat.dvd_lcm_right a b), p, Nat.le_of_dvd (Nat.mul_pos ha hb) (Nat.lcm_dvd_mul a b)⟩
theorem fine_join {s0 s2 s3 : List Nat} {c b b2 : Nat} {r r2 : List Nat} (F : Fine s0 (c :: s2, b, r)) (G : Fine s2 (s3, b2, r2)) : Fine s0 (s3, Nat.lcm b b2, tog b r b2 r2) := by
  obtain ⟨k, k1, k2, k3, k4⟩ := F.suf
  obtain ⟨j, j1, j2, j3, j4⟩ := G.suf
  have k3' : c :: s2 = s0.drop k := k3
  have j3' : s3 = s2.drop j := j3
  have k4' : b ≤ 2 ^ (6 * k) := k4
  have j4' : b2 ≤ 2 ^ (6 * j) := j4
  have p1 : 1 ≤ b := F.pos
  have p2 : 1 ≤ b2 := G.pos
  obtain ⟨l1, l2, l3, l4⟩ := lcm_le p1 p2
  have e3 : s2 = s0.drop (k + 1) := by
    have e : (c :: s2).drop 1 = (s0.drop k).drop 1 := by rw [k3']
    rw [List.drop_drop] at e
    simpa using e
  have sl : s2.length + 1 = s0.length - k := by rw [← List.length_cons (a := c), k3', List.length_drop]
  refine ⟨⟨k + 1 + j, by omega, by omega, by show s3 = _; rw [j3', e3, List.drop_drop], ?_⟩, l3, ?_, ?_⟩
  · show Nat.lcm b b2 ≤ _
    rw [pow_split]
    refine Nat.le_trans l4 (Nat.mul_le_mul ?_ j4')
    refine Nat.le_trans k4' ?_
    exact Nat.pow_le_pow_right (by decide) (by omega)
  · intro h
    have h' : Nat.lcm b b2 ≤ 24 := h
    obtain ⟨e1, e2⟩ := F.row (by show b ≤ 24; omega)
    obtain ⟨e4, e5⟩ := G.row (by show b2 ≤ 24; omega)
    have e1' : r.length = b := e1
    have e4' : r2.length = b2 := e4
    show (tog b r b2 r2).length = Nat.lcm b b2 ∧ _
    unfold tog
    rw [if_pos h']
    refine ⟨by rw [List.length_map, List.length_range], fun x hx => ?_⟩
    have hx' : x ∈ (List.range (Nat.lcm b b2)).map fun i => if (r[i % b]?).getD 0 = 46 then (r2[i % b2]?).getD 0 else (r[i % b]?).getD 0 := hx
    obtain ⟨i, _, rfl⟩ := List.mem_map.mp hx'
    split
    · exact e5 _ (getD_mem (by rw [e4']; exact Nat.mod_lt _ p2))
    · exact e2 _ (getD_mem (by rw [e1']; exact Nat.mod_lt _ p1))
  · intro h
    have h' : ¬ Nat.lcm b b2 ≤ 24 := Nat.not_le.mpr h
    show tog b r b2 r2 = []
    unfold tog
    rw [if_neg h']
theorem ok_join {part : List Nat → Res} (hp : Ok part (fun _ => True)) {s0 : List Nat} : ∀ (n : Nat) (s : List Nat) (b : Nat) (r : List Nat) (g : Got), Fine s0 (s, b, r) → rdJoin part n s b r = .ok g → Fine s0 g
  | 0, s, b, r, g, F, h => by
    cases h
    exact F
  | n + 1, s, b, r, g, F, h => by
    unfold rdJoin at h
    split at h
    · cases h
      exact F
    · rename_i c s2
      split at h
      · split at h
        · cases h
        · rename_i s3 b2 r2 hx
          exact ok_join hp n _ _ _ g (fine_join F (hp s2 _ trivial hx)) h
      · cases h
        exact F
theorem ok_parts {part : List Nat → Res} (hp : Ok part (fun _ => True)) {top : Bool} {s : List Nat} {g : Got} (h : rdParts part top s = .ok g) : Fine s g ∧ (top = false → g.1 ≠ []) := by
  unfold rdParts at h
  split at h
  · cases h
  · rename_i s2 b r hx
    split at h
    · cases h
    · rename_i s3 b3 r3 hj
      split at h
      · rename_i ht
        cases h
        refine ⟨ok_join hp _ _ _ _ _ (hp s _ trivial hx) hj, fun z e => ?_⟩
        subst z
        have e' : s3 = [] := e
        rw [e'] at ht
        cases ht
      · cases h
theorem ok_at : ∀ (n : Nat) (top : Bool) (s : List Nat) (g : Got), rdAt n top s = .ok g → Fine s g ∧ (top = false → g.1 ≠ [])
  | 0, top, s, g, h => ok_parts (ok_part (ok_item (inner := none) fun f z => by cases z)) h
  | n + 1, top, s, g, h => ok_parts (ok_part (ok_item (inner := some (rdAt n false)) fun f z s g hf => by
      cases z
      obtain ⟨h1, h2⟩ := ok_at n false s g hf
      exact ⟨h1, h2 rfl⟩)) h
theorem inner_ok (n : Nat) : ∀ f, innerOf n = some f → ∀ s g, f s = .ok g → Fine s g ∧ g.1 ≠ [] := by
  intro f z s g hf
  cases n with
  | zero => cases z
  | succ n =>
    cases z
    obtain ⟨h1, h2⟩ := ok_at n false s g hf
    exact ⟨h1, h2 rfl⟩
end Rt

set_option Elab.async false
namespace Fk
open PySem
def topS (i : Nat) : Stmt := PySem.Challenge.pw_falseglim_k08_whole_parted_rounds.main.body.getD i (.Pass ⟨0, 0, 0, 0⟩)
end Fk

set_option Elab.async false
set_option linter.all false
set_option maxRecDepth 100000
set_option maxHeartbeats 4000000
namespace Fk
open PySem PySem.Spec PyProof.Rows L2 Fg Rt
local macro_rules | `(tactic| walk_at "rd1") => `(tactic| first
  | with_reducible refine r_seq ?_
  | with_reducible refine r_asg ?_
  | with_reducible refine r_gname ?_
  | with_reducible refine r_gsub ?_
  | with_reducible refine r_ret ?_
  | with_reducible refine r_retN ?_
  | with_reducible refine r_next ?_
  | with_reducible refine r_drop ?_
  | with_reducible refine r_ifS ?_
  | with_reducible refine r_if ?_
  | with_reducible refine r_par ?_
  | with_reducible refine r_pair ?_
  | with_reducible refine r_test ?_
  | with_reducible refine r_tB ?_
  | with_reducible refine r_not ?_
  | with_reducible refine r_and ?_
  | with_reducible refine r_or ?_
  | with_reducible refine r_andV ?_
  | with_reducible refine r_orV ?_
  | with_reducible refine r_notV ?_
  | with_reducible refine r_nil ?_
  | with_reducible refine r_cons ?_
  | with_reducible refine r_call ?_
  | with_reducible refine r_callS ?_
  | with_reducible refine r_cb ?_
  | with_reducible refine r_then ?_
  | with_reducible refine r_tup ?_
  | with_reducible refine r_lst ?_
  | with_reducible refine r_sl ?_
  | with_reducible refine r_nopart ?_
  | with_reducible refine r_part ?_
  | with_reducible refine r_lcR1 ?_
  | with_reducible refine r_lcR2 ?_
  | with_reducible refine r_lcL ?_
  | with_reducible refine r_lcT ?_
  | with_reducible refine r_forR1 ?_
  | with_reducible refine r_forR2 ?_
  | with_reducible refine r_forL ?_
  | with_reducible refine r_forT ?_
  | with_reducible refine r_forE ?_
  | with_reducible refine r_strE ?_
  | ((with_reducible refine r_rng1 ?hc ?_); (case hc => omega))
  | ((with_reducible refine r_rng2 ?hc ?_); (case hc => omega))
  | ((with_reducible refine' r_refL ?hc ?_); (case hc => first | assumption | exact Evl.sq_of (by assumption)))
  | ((with_reducible refine' r_refT ?hc ?_); (case hc => first | assumption | exact Evl.st_of (by assumption)))
  | with_reducible refine r_op ?_
  | with_reducible refine r_un ?_
  | with_reducible refine r_chain ?_
  | ((with_reducible refine' r_var ?hv ?_); (case hv => exact rfl))
  | with_reducible refine r_cS ?_
  | with_reducible refine r_cs ?_
  | with_reducible refine r_c ?_
  | with_reducible refine r_yes ?_
  | with_reducible refine r_bm ?_
  | with_reducible refine r_bl ?_
  | with_reducible refine r_in ?_
  | with_reducible refine r_ty ?_
  | with_reducible refine r_I0 ?_
  | ((with_reducible refine r_I ?hc ?_); (case hc => first | assumption | (show (0 : Int) < _; decide) | exact Or.inr ⟨by decide, by decide⟩ | exact Or.inr ⟨by omega, by omega⟩ | exact Or.inl ⟨by decide, by decide⟩ | exact (show CDivW _ _ from ⟨by decide, by decide +kernel⟩) | exact (show CPowW _ _ from ⟨by decide, by decide +kernel⟩) | (show (0 : Int) < _; omega)))
  | with_reducible refine r_U ?_
  | with_reducible refine r_eqI ?_
  | with_reducible refine r_neI ?_
  | with_reducible refine r_eqS ?_
  | with_reducible refine r_neS ?_
  | with_reducible refine r_eqB ?_
  | with_reducible refine r_neB ?_
  | with_reducible refine r_niS ?_
  | with_reducible refine r_inSS ?_
  | ((with_reducible refine r_slSS ?hc ?_); (case hc => first | exact small (by omega) | exact small (by simp; omega)))
  | ((with_reducible refine r_lenS ?hc ?_); (case hc => first | exact small (by omega) | exact small (by simp; omega)))
  | ((with_reducible refine' r_lenL ?hc ?_); (case hc => first | assumption | exact Evl.sq_of (by assumption)))
  | ((with_reducible refine' r_lenT ?hc ?_); (case hc => first | assumption | exact Evl.st_of (by assumption)))
  | ((with_reducible refine' r_ixL ?h1 ?h2 ?h3 ?_); (case h1 => first | assumption | exact Evl.sq_of (by assumption) | exact Evl.sq_of upd_same); (case h2 => first | decide | omega); (case h3 => first | exact rfl | assumption))
  | ((with_reducible refine' r_ixT ?h1 ?h2 ?h3 ?_); (case h1 => first | assumption | exact Evl.st_of (by assumption)); (case h2 => first | decide | omega); (case h3 => first | exact rfl | assumption))
  | with_reducible refine r_T ?_
  | with_reducible refine r_notNn ?_
  | with_reducible refine r_notN_int ?_
  | with_reducible refine r_notN_str ?_
  | with_reducible refine r_notN_ref ?_
  | with_reducible refine r_isNn ?_
  | with_reducible refine r_isN_int ?_
  | with_reducible refine r_isN_str ?_
  | with_reducible refine r_isN_ref ?_
  | ((with_reducible refine' r_isi ?ht ?hk ?_); (case ht => first | exact .base (.int _) | exact .base (.bl _) | exact .base (.str _) | exact .base .non | exact .base (.lst (by assumption)) | exact .base (.tup (by assumption))); (case hk => first | exact kb_int_int | exact kb_int_bool | exact kb_int_str | exact kb_int_list | exact kb_int_tuple | exact kb_bool_int | exact kb_bool_bool | exact kb_bool_str | exact kb_bool_list | exact kb_bool_tuple | exact kb_str_int | exact kb_str_bool | exact kb_str_str | exact kb_str_list | exact kb_str_tuple | exact kb_NoneType_int | exact kb_NoneType_bool | exact kb_NoneType_str | exact kb_NoneType_list | exact kb_NoneType_tuple | exact kb_list_int | exact kb_list_bool | exact kb_list_str | exact kb_list_list | exact kb_list_tuple | exact kb_tuple_int | exact kb_tuple_bool | exact kb_tuple_str | exact kb_tuple_list | exact kb_tuple_tuple))
  | with_reducible refine r_F ?_
  | with_reducible refine r_nT ?_
  | with_reducible refine r_nF ?_
  | with_reducible refine r_mko ?_
  | with_reducible refine r_xf ?_
  | ((with_reducible refine' r_sum ?hc ?_); (case hc => first | assumption | exact Evl.sq_of (by assumption)))
  | ((with_reducible refine' r_setL ?h1 ?h2 ?h3 ?_); (case h1 => first | assumption | exact upd_same); (case h2 => first | decide | omega); (case h3 => first | (show _ < _; decide) | (simp; done)))
  | with_reducible refine r_int ?_
  | with_reducible refine r_abs ?_)
local macro_rules | `(tactic| walk_at "rd") => `(tactic| repeat (walk_at "rd1"))

section
variable {P : Program} {w : World} {K : PySem.W.Frag} {mg : Str → Option Value} {base : Heap}
abbrev SGL : List Nat := [46, 103, 114, 119]
abbrev DGL : List Nat := [48, 49, 50, 51, 52, 53, 54, 55, 56, 57]
theorem sgl (c : Nat) : decide (c ∈ SGL) = isSg c := by unfold SGL isSg; simp
theorem dgl (c : Nat) : decide (c ∈ DGL) = isDig c := by
  unfold DGL isDig
  apply decide_eq_decide.mpr
  simp only [List.mem_cons, List.not_mem_nil, or_false]
  omega
theorem cut_mid {l : List Nat} {i j : Int} (h : 0 ≤ i) (h2 : i ≤ j) : cutL l (some i) (some j) = (l.drop i.toNat).take (j.toNat - i.toNat) := by
  unfold cutL
  rw [sIx_pos h, sIx_pos (by omega)]
  by_cases hi : i.toNat ≤ l.length
  · rw [Nat.min_eq_left hi]
    by_cases hj : j.toNat ≤ l.length
    · rw [Nat.min_eq_left hj]
    · rw [Nat.min_eq_right (by omega), List.take_of_length_le (by rw [List.length_drop]; omega), List.take_of_length_le (by rw [List.length_drop]; omega)]
  · rw [List.drop_eq_nil_of_le (by omega : l.length ≤ min i.toNat l.length), List.drop_eq_nil_of_le (by omega : l.length ≤ i.toNat)]
    simp
theorem take1 {l : List Nat} {i : Nat} : (l.drop i).take 1 = match l[i]? with
  | none => []
  | some c => [c] := by
  rw [← List.head?_drop]
  cases l.drop i <;> rfl
def spIsSign : Sp := fun vs H Q _ => ∃ l : List Nat, vs = [.str (S l)] ∧ l.length ≤ 1 ∧ Q (.bl (match l with
  | [] => false
  | c :: _ => isSg c)) H
abbrev s_is_sign : Stmt := topS 14
abbrev N_is_sign : List Str := ["thing"]
theorem sc_is_sign : FnScope ["thing"] ["thing"] (defScope s_is_sign) := ⟨rfl, rfl, rfl, by decide +kernel, rfl, by decide +kernel, by decide +kernel⟩
theorem can_is_sign (T : Bi mg) (F : Defd K mg "is_sign" s_is_sign ["thing"]) (c_SIGNS : ∃ u, mg "SIGNS" = some u ∧ RelV (.str (S SGL)) u) : Can P w K mg base L2.CX0 1 "is_sign" ["thing"] spIsSign := by
  refine can0 F sc_is_sign (fun vs H Q E h => ?_) (fun f cdv A outer s H vs Q E hr h => ⟨_, (pss_one (ps_ret (pe_and (pe_callB call_isi (by rfl) T.b_isinstance boot_isinstance (pa_cons (pv 0) (pa_cons (pe_bltn (v := .ty "str") (by rfl) T.b_str boot_str rfl) pa_nil))) (pe_and (pe_cmpR op_eq (pe_callB call_lenS (by rfl) T.b_len boot_len (pa_cons (pv 0) pa_nil)) pe_int (nomark _)) (pe_one (pe_cmpR op_inSS (pv 0) (C8.pe_gc rfl c_SIGNS) (by rfl))))))), ?_⟩)
  · obtain ⟨_, rfl, _⟩ := h
    rfl
  · obtain ⟨l, rfl, hl, q⟩ := h
    walk_at "rd"
    match l, hl with
    | [], _ =>
      walk_at "rd"
      refine r_ite (fun z => absurd z (by decide)) (fun _ => ?_)
      exact q
    | [c], _ =>
      walk_at "rd"
      refine r_ite (fun _ => ?_) (fun z => absurd rfl z)
      walk_at "rd"
      rw [sgl c]
      exact q
    | _ :: _ :: _, hl => exact absurd hl (by simp)
def spKept : Sp := fun vs H Q _ => ∃ (b : Nat) (r : List Nat), vs = [.int (b : Int), .str (S r)] ∧ Q (.str (S (kept b r))) H
abbrev s_kept : Stmt := topS 22
abbrev N_kept : List Str := ["beats", "row"]
theorem sc_kept : FnScope ["beats", "row"] ["beats", "row"] (defScope s_kept) := ⟨rfl, rfl, rfl, by decide +kernel, rfl, by decide +kernel, by decide +kernel⟩
theorem can_kept (T : Bi mg) (F : Defd K mg "kept" s_kept ["beats", "row"]) (c_MOST_BEATS : ∃ u, mg "MOST_BEATS" = some u ∧ RelV (.int 24) u) : Can P w K mg base L2.CX0 1 "kept" ["beats", "row"] spKept := by
  refine can0 F sc_kept (fun vs H Q E h => ?_) (fun f cdv A outer s H vs Q E hr h => ⟨_, (pss_one (ps_ret (pe_ifExp (pt_cmpR op_le (pv 0) (C8.pe_gc rfl c_MOST_BEATS) (nomark _)) (pv 1) (pe_strL [] (by decide +kernel))))), ?_⟩)
  · obtain ⟨_, _, rfl, _⟩ := h
    rfl
  · obtain ⟨b, r, rfl, q⟩ := h
    walk_at "rd"
    refine r_ite (fun h => ?_) (fun h => ?_)
    · walk_at "rd"
      unfold kept at q
      rw [if_pos (by omega)] at q
      exact q
    · walk_at "rd"
      unfold kept at q
      rw [if_neg (by omega)] at q
      exact q
def spChar : Sp := fun vs H Q _ => ∃ (l : List Nat) (i : Nat), vs = [.str (S l), .int (i : Int)] ∧ l.length ≤ 100000 ∧ Q (.str (S ((l.drop i).take 1))) H
abbrev s_char_at : Stmt := topS 24
abbrev N_char_at : List Str := ["text", "at"]
theorem sc_char_at : FnScope ["text", "at"] ["text", "at"] (defScope s_char_at) := ⟨rfl, rfl, rfl, by decide +kernel, rfl, by decide +kernel, by decide +kernel⟩
theorem can_char_at (T : Bi mg) (F : Defd K mg "char_at" s_char_at ["text", "at"]) : Can P w K mg base L2.CX0 1 "char_at" ["text", "at"] spChar := by
  refine can0 F sc_char_at (fun vs H Q E h => ?_) (fun f cdv A outer s H vs Q E hr h => ⟨_, (pss_one (ps_ret (pe_slice sl_strS (pv 0) (po_some (pv 1)) (po_some (pe_op op_add (pv 1) pe_int))))), ?_⟩)
  · obtain ⟨_, _, rfl, _⟩ := h
    rfl
  · obtain ⟨l, i, rfl, hl, q⟩ := h
    walk_at "rd"
    rw [cut_mid (by omega) (by omega), show ((i : Int) + 1).toNat - (i : Int).toNat = 1 by omega, Int.toNat_natCast]
    exact q
def spEnd : Sp := fun vs H Q _ => ∃ (l : List Nat) (i : Nat), vs = [.str (S l), .int (i : Int)] ∧ l.length ≤ 100000 ∧ Q (.int ((i + (dsOf (l.drop i)).length : Nat) : Int)) H
theorem tw_get {p : Nat → Bool} : ∀ (s : List Nat) (k : Nat), k < (s.takeWhile p).length → ∃ c, s[k]? = some c ∧ p c = true
  | [], k, h => absurd h (by simp)
  | x :: r, k, h => by
    rw [List.takeWhile_cons] at h
    split at h
    · rename_i hx
      cases k with
      | zero => exact ⟨x, rfl, hx⟩
      | succ k => exact tw_get r k (by simpa using h)
    · exact absurd h (by simp)
theorem tw_end {p : Nat → Bool} : ∀ (s : List Nat) (c : Nat), s[(s.takeWhile p).length]? = some c → p c = false
  | [], c, h => by simp at h
  | x :: r, c, h => by
    rw [List.takeWhile_cons] at h
    split at h
    · exact tw_end r c (by simpa using h)
    · rename_i hx
      have e : x = c := by simpa using h
      subst e
      simpa using hx
abbrev s_end_of_run : Stmt := topS 25
abbrev N_end_of_run : List Str := ["text", "at", "end"]
theorem sc_end_of_run : FnScope ["text", "at", "end"] ["text", "at"] (defScope s_end_of_run) := ⟨rfl, rfl, rfl, by decide +kernel, rfl, by decide +kernel, by decide +kernel⟩
theorem can_end_of_run (T : Bi mg) (F : Defd K mg "end_of_run" s_end_of_run ["text", "at"]) (c_DIGITS : ∃ u, mg "DIGITS" = some u ∧ RelV (.str (S DGL)) u) : Can P w K mg base L2.CX0 1 "end_of_run" ["text", "at"] spEnd := by
  refine can0 F sc_end_of_run (fun vs H Q E h => ?_) (fun f cdv A outer s H vs Q E hr h => ⟨_, (pss_cons (ps_set (i := 2) sc_end_of_run.nd rfl (by first | exact Or.inl rfl | exact Or.inr rfl) (pv 1))
  (pss_cons (ps_while PassesOwn.never (PW.pt (pw_and (pt_cmpR op_lt (pv 2) (pe_callB call_lenS (by rfl) T.b_len boot_len (pa_cons (pv 0) pa_nil)) (nomark _)) (pw_and1 (pt_cmpR op_inSS (pe_ix ix_strS (pv 0) (pv 2) (fun _ _ => rfl)) (C8.pe_gc rfl c_DIGITS) (by rfl))))) (pss_one (ps_set (i := 2) sc_end_of_run.nd rfl (by first | exact Or.inl rfl | exact Or.inr rfl) (pe_op op_add (pv 2) pe_int))))
  (pss_one (ps_ret (pv 2))))), ?_⟩)
  · obtain ⟨_, _, rfl, _⟩ := h
    rfl
  · obtain ⟨l, i, rfl, hl, q⟩ := h
    have dl : (dsOf (l.drop i)).length + i ≤ l.length + i := by
      have := len_rs (l.drop i)
      rw [List.length_drop] at this
      omega
    have dl2 : i ≤ l.length → (dsOf (l.drop i)).length + i ≤ l.length := by
      have := len_rs (l.drop i)
      rw [List.length_drop] at this
      omega
    walk_at "rd"
    refine ⟨fun m σ' H' => ∃ k : Nat, σ' = [some (.str (S l)), some (.int (i : Int)), some (.int ((i + k : Nat) : Int))] ∧ H' = H ∧ m + k = (dsOf (l.drop i)).length, ⟨(dsOf (l.drop i)).length, 0, rfl, rfl, by omega⟩, fun m σ' H' hW => ?_⟩
    obtain ⟨k, rfl, rfl, hm⟩ := hW
    walk_at "rd"
    refine r_ite (fun h => ?_) (fun h => ?_)
    · have hik : i + k < l.length := by omega
      have g : l[((i + k : Nat) : Int).toNat]? = some l[i + k] := by rw [Int.toNat_natCast]; exact List.getElem?_eq_getElem hik
      walk_at "rd"
      refine r_ixSS (small (by omega)) (by omega) g ?_
      walk_at "rd"
      have g2 : (l.drop i)[k]? = some l[i + k] := by rw [List.getElem?_drop]; exact List.getElem?_eq_getElem hik
      refine r_ite (fun h2 => ?_) (fun h2 => ?_)
      · have hk : k < (dsOf (l.drop i)).length := by
          rcases Nat.lt_or_ge k (dsOf (l.drop i)).length with z | z
          · exact z
          · have e : k = (dsOf (l.drop i)).length := by omega
            have e2 := tw_end (p := isDig) (l.drop i) l[i + k] (by rw [← g2, e]; rfl)
            rw [← dgl] at e2
            exact absurd h2 (of_decide_eq_false e2)
        refine ⟨fun σ2 H2 => ∃ k2 : Nat, σ2 = [some (.str (S l)), some (.int (i : Int)), some (.int ((i + k2 : Nat) : Int))] ∧ H2 = H' ∧ (m - 1) + k2 = (dsOf (l.drop i)).length, fun σ2 H2 z => ⟨m - 1, by omega, z⟩, ?_⟩
        walk_at "rd"
        exact ⟨k + 1, by rw [show ((i + (k + 1) : Nat) : Int) = ((i + k : Nat) : Int) + 1 by omega]; rfl, rfl, by omega⟩
      · have hk : k = (dsOf (l.drop i)).length := by
          rcases Nat.lt_or_ge k (dsOf (l.drop i)).length with z | z
          · obtain ⟨c, c1, c2⟩ := tw_get (p := isDig) (l.drop i) k z
            rw [g2] at c1
            rw [← Option.some.inj c1, ← dgl] at c2
            exact absurd (of_decide_eq_true c2) h2
          · omega
        walk_at "rd"
        rw [hk]
        exact q
    · have hk : k = (dsOf (l.drop i)).length := by
        rcases Nat.lt_or_ge k (dsOf (l.drop i)).length with z | z
        · obtain ⟨c, c1, c2⟩ := tw_get (p := isDig) (l.drop i) k z
          have := (List.getElem?_eq_some_iff.mp c1).1
          rw [List.length_drop] at this
          omega
        · omega
      walk_at "rd"
      rw [hk]
      exact q
end
end Fk

set_option Elab.async false
set_option linter.all false
set_option maxRecDepth 100000
set_option maxHeartbeats 4000000
namespace Fk
open PySem PySem.Spec PyProof.Rows L2 Fg Rt
local macro_rules | `(tactic| walk_at "rd1") => `(tactic| first
  | with_reducible refine r_seq ?_
  | with_reducible refine r_asg ?_
  | with_reducible refine r_gname ?_
  | with_reducible refine r_gsub ?_
  | with_reducible refine r_ret ?_
  | with_reducible refine r_retN ?_
  | with_reducible refine r_next ?_
  | with_reducible refine r_drop ?_
  | with_reducible refine r_ifS ?_
  | with_reducible refine r_if ?_
  | with_reducible refine r_par ?_
  | with_reducible refine r_pair ?_
  | with_reducible refine r_test ?_
  | with_reducible refine r_tB ?_
  | with_reducible refine r_not ?_
  | with_reducible refine r_and ?_
  | with_reducible refine r_or ?_
  | with_reducible refine r_andV ?_
  | with_reducible refine r_orV ?_
  | with_reducible refine r_notV ?_
  | with_reducible refine r_nil ?_
  | with_reducible refine r_cons ?_
  | with_reducible refine r_call ?_
  | with_reducible refine r_callS ?_
  | with_reducible refine r_cb ?_
  | with_reducible refine r_then ?_
  | with_reducible refine r_tup ?_
  | with_reducible refine r_lst ?_
  | with_reducible refine r_sl ?_
  | with_reducible refine r_nopart ?_
  | with_reducible refine r_part ?_
  | with_reducible refine r_lcR1 ?_
  | with_reducible refine r_lcR2 ?_
  | with_reducible refine r_lcL ?_
  | with_reducible refine r_lcT ?_
  | with_reducible refine r_forR1 ?_
  | with_reducible refine r_forR2 ?_
  | with_reducible refine r_forL ?_
  | with_reducible refine r_forT ?_
  | with_reducible refine r_forE ?_
  | with_reducible refine r_strE ?_
  | ((with_reducible refine r_rng1 ?hc ?_); (case hc => omega))
  | ((with_reducible refine r_rng2 ?hc ?_); (case hc => omega))
  | ((with_reducible refine' r_refL ?hc ?_); (case hc => first | assumption | exact Evl.sq_of (by assumption)))
  | ((with_reducible refine' r_refT ?hc ?_); (case hc => first | assumption | exact Evl.st_of (by assumption)))
  | with_reducible refine r_op ?_
  | with_reducible refine r_un ?_
  | with_reducible refine r_chain ?_
  | ((with_reducible refine' r_var ?hv ?_); (case hv => exact rfl))
  | with_reducible refine r_cS ?_
  | with_reducible refine r_cs ?_
  | with_reducible refine r_c ?_
  | with_reducible refine r_yes ?_
  | with_reducible refine r_bm ?_
  | with_reducible refine r_bl ?_
  | with_reducible refine r_in ?_
  | with_reducible refine r_ty ?_
  | with_reducible refine r_I0 ?_
  | ((with_reducible refine r_I ?hc ?_); (case hc => first | assumption | (show (0 : Int) < _; decide) | exact Or.inr ⟨by decide, by decide⟩ | exact Or.inr ⟨by omega, by omega⟩ | exact Or.inl ⟨by decide, by decide⟩ | exact (show CDivW _ _ from ⟨by decide, by decide +kernel⟩) | exact (show CPowW _ _ from ⟨by decide, by decide +kernel⟩) | (show (0 : Int) < _; omega)))
  | with_reducible refine r_U ?_
  | with_reducible refine r_eqI ?_
  | with_reducible refine r_neI ?_
  | with_reducible refine r_eqS ?_
  | with_reducible refine r_neS ?_
  | with_reducible refine r_eqB ?_
  | with_reducible refine r_neB ?_
  | with_reducible refine r_niS ?_
  | with_reducible refine r_inSS ?_
  | ((with_reducible refine r_slSS ?hc ?_); (case hc => first | exact small (by omega) | exact small (by simp; omega)))
  | ((with_reducible refine r_lenS ?hc ?_); (case hc => first | exact small (by omega) | exact small (by simp; omega)))
  | ((with_reducible refine' r_lenL ?hc ?_); (case hc => first | assumption | exact Evl.sq_of (by assumption)))
  | ((with_reducible refine' r_lenT ?hc ?_); (case hc => first | assumption | exact Evl.st_of (by assumption)))
  | ((with_reducible refine' r_ixL ?h1 ?h2 ?h3 ?_); (case h1 => first | assumption | exact Evl.sq_of (by assumption) | exact Evl.sq_of upd_same); (case h2 => first | decide | omega); (case h3 => first | exact rfl | assumption))
  | ((with_reducible refine' r_ixT ?h1 ?h2 ?h3 ?_); (case h1 => first | assumption | exact Evl.st_of (by assumption)); (case h2 => first | decide | omega); (case h3 => first | exact rfl | assumption))
  | with_reducible refine r_T ?_
  | with_reducible refine r_notNn ?_
  | with_reducible refine r_notN_int ?_
  | with_reducible refine r_notN_str ?_
  | with_reducible refine r_notN_ref ?_
  | with_reducible refine r_isNn ?_
  | with_reducible refine r_isN_int ?_
  | with_reducible refine r_isN_str ?_
  | with_reducible refine r_isN_ref ?_
  | ((with_reducible refine' r_isi ?ht ?hk ?_); (case ht => first | exact .base (.int _) | exact .base (.bl _) | exact .base (.str _) | exact .base .non | exact .base (.lst (by assumption)) | exact .base (.tup (by assumption))); (case hk => first | exact kb_int_int | exact kb_int_bool | exact kb_int_str | exact kb_int_list | exact kb_int_tuple | exact kb_bool_int | exact kb_bool_bool | exact kb_bool_str | exact kb_bool_list | exact kb_bool_tuple | exact kb_str_int | exact kb_str_bool | exact kb_str_str | exact kb_str_list | exact kb_str_tuple | exact kb_NoneType_int | exact kb_NoneType_bool | exact kb_NoneType_str | exact kb_NoneType_list | exact kb_NoneType_tuple | exact kb_list_int | exact kb_list_bool | exact kb_list_str | exact kb_list_list | exact kb_list_tuple | exact kb_tuple_int | exact kb_tuple_bool | exact kb_tuple_str | exact kb_tuple_list | exact kb_tuple_tuple))
  | with_reducible refine r_F ?_
  | with_reducible refine r_nT ?_
  | with_reducible refine r_nF ?_
  | with_reducible refine r_mko ?_
  | with_reducible refine r_xf ?_
  | ((with_reducible refine' r_sum ?hc ?_); (case hc => first | assumption | exact Evl.sq_of (by assumption)))
  | ((with_reducible refine' r_setL ?h1 ?h2 ?h3 ?_); (case h1 => first | assumption | exact upd_same); (case h2 => first | decide | omega); (case h3 => first | (show _ < _; decide) | (simp; done)))
  | with_reducible refine r_int ?_
  | with_reducible refine r_abs ?_)
local macro_rules | `(tactic| walk_at "rd") => `(tactic| repeat (walk_at "rd1"))

section
variable {P : Program} {w : World} {K : PySem.W.Frag} {mg : Str → Option Value} {base : Heap}
structure RowOk (b : Nat) (r : List Nat) : Prop where
  pos : 1 ≤ b
  lt : b < 2 ^ 13000
  row : b ≤ 24 → r.length = b ∧ ∀ c ∈ r, isSg c = true
  non : 24 < b → r = []
def togF (b : Nat) (r : List Nat) (b2 : Nat) (r2 : List Nat) (i : Nat) : Nat := if (r[i % b]?).getD 0 = 46 then (r2[i % b2]?).getD 0 else (r[i % b]?).getD 0
theorem getD_some {r : List Nat} {i : Nat} (h : i < r.length) : r[i]? = some ((r[i]?).getD 0) := by
  rw [List.getElem?_eq_getElem h]; rfl
def spTogether : Sp := fun vs H Q _ => ∃ (b : Nat) (r : List Nat) (b2 : Nat) (r2 : List Nat), vs = [.int (b : Int), .str (S r), .int (b2 : Int), .str (S r2)] ∧ RowOk b r ∧ RowOk b2 r2 ∧ ∀ p H', Ex H H' → H' p = some (.tup [.int ((Nat.lcm b b2 : Nat) : Int), .str (S (tog b r b2 r2))]) → Q (.ref p) H'
abbrev s_together : Stmt := topS 23
abbrev N_together : List Str := ["beats", "row", "other_beats", "other", "both", "signs", "beat", "sign"]
theorem sc_together : FnScope ["beats", "row", "other_beats", "other", "both", "signs", "beat", "sign"] ["beats", "row", "other_beats", "other"] (defScope s_together) := ⟨rfl, rfl, rfl, by decide +kernel, rfl, by decide +kernel, by decide +kernel⟩
theorem can_together (T : Bi mg) (F : Defd K mg "together" s_together ["beats", "row", "other_beats", "other"]) (c_MOST_BEATS : ∃ u, mg "MOST_BEATS" = some u ∧ RelV (.int 24) u) (c_DARK : ∃ u, mg "DARK" = some u ∧ RelV (.str (S [46])) u) (g_lcm : mg "lcm" = some (.builtin "math.lcm")) : Can P w K mg base L2.CX0 1 "together" ["beats", "row", "other_beats", "other"] spTogether := by
  refine can0 F sc_together (fun vs H Q E h => ?_) (fun f cdv A outer s H vs Q E hr h => ⟨_, (pss_cons (ps_set (i := 4) sc_together.nd rfl (by first | exact Or.inl rfl | exact Or.inr rfl) (pe_callBfun cr_lcm (by rfl) g_lcm (pa_cons (pv 0) (pa_cons (pv 2) pa_nil))))
  (pss_cons (ps_if (pt_cmpR op_gt (pv 4) (C8.pe_gc rfl c_MOST_BEATS) (nomark _)) (pss_one (ps_ret (pe_tup (pa_cons (pv 4) (pa_cons (pe_strL [] (by decide +kernel)) pa_nil))))) pss_nil)
  (pss_cons (ps_set (i := 5) sc_together.nd rfl (by first | exact Or.inl rfl | exact Or.inr rfl) (pe_lst pa_nil))
  (pss_cons (ps_for PassesOwn.never rfl (pi_range1 rfl T.b_range (pa_cons (pv 4) pa_nil)) (pg_name (i := 6) sc_together.nd rfl (by first | exact Or.inl rfl | exact Or.inr rfl))
    (pss_cons (ps_set (i := 7) sc_together.nd rfl (by first | exact Or.inl rfl | exact Or.inr rfl) (pe_ix ix_strS (pv 1) (pe_op op_mod (pv 6) (pv 0)) (fun _ _ => rfl)))
  (pss_one (ps_expr (pe_bm PySem.F.plainAttrs_list PySem.F.slot_list_append PySem.F.type_list_append mt_append (pv 5) (pa_cons (pe_ifExp (pt_cmpR op_eq (pv 7) (C8.pe_gc rfl c_DARK) (nomark _)) (pe_ix ix_strS (pv 3) (pe_op op_mod (pv 6) (pv 2)) (fun _ _ => rfl)) (pv 7)) pa_nil))))))
  (pss_one (ps_ret (pe_tup (pa_cons (pv 4) (pa_cons (pe_bm PySem.F.plainAttrs_str PySem.F.slot_str_join PySem.F.type_str_join mt_joinS (pe_strL [] (by decide +kernel)) (pa_cons (pv 5) pa_nil)) pa_nil))))))))), ?_⟩)
  · obtain ⟨_, _, _, _, rfl, _⟩ := h
    rfl
  · obtain ⟨b, r, b2, r2, rfl, h1, h2, q⟩ := h
    walk_at "rd"
    refine ⟨b, b2, rfl, h1.lt, h2.lt, ?_⟩
    walk_at "rd"
    refine r_ite (fun h => ?_) (fun h => ?_)
    · walk_at "rd"
      refine ⟨small (by show 2 ≤ 1000000; decide), fun p hp => ?_⟩
      refine q p _ (Evl.Ex.new hp) ?_
      rw [upd_same]
      have e : tog b r b2 r2 = [] := by
        unfold tog
        rw [if_neg (by omega)]
      rw [e]
    · have h24 : Nat.lcm b b2 ≤ 24 := by omega
      obtain ⟨l1, l2, l3, _⟩ := lcm_le h1.pos h2.pos
      obtain ⟨e1, e2⟩ := h1.row (by omega)
      obtain ⟨e3, e4⟩ := h2.row (by omega)
      have p1 := h1.pos
      have p2 := h2.pos
      have et : tog b r b2 r2 = (List.range (Nat.lcm b b2)).map (togF b r b2 r2) := by
        unfold tog
        rw [if_pos h24]
        rfl
      generalize hm : Nat.lcm b b2 = m at *
      walk_at "rd"
      refine ⟨small (by show 0 ≤ 1000000; decide), fun D hD => ?_⟩
      walk_at "rd"
      let J : Nat → L2.St → Hp → Prop := fun i σ' H' => ∃ o o2, σ' = [some (.int (b : Int)), some (.str (S r)), some (.int (b2 : Int)), some (.str (S r2)), some (.int (m : Int)), some (.ref D), o, o2] ∧ H' = upd H D (.lst (((List.range i).map (togF b r b2 r2)).map fun c => .str (S [c])))
      refine forR J ⟨_, _, rfl, rfl⟩ (fun i σ' H' hi hJ => ?_) (fun σ' H' hJ => ?_)
      · obtain ⟨o, o2, rfl, rfl⟩ := hJ
        have g1 : r[(((0 : Int) + (i : Int)) % (b : Int)).toNat]? = some ((r[i % b]?).getD 0) := by
          rw [show ((0 : Int) + (i : Int)) % (b : Int) = ((i % b : Nat) : Int) by rw [Int.zero_add, Int.natCast_emod], Int.toNat_natCast]
          exact getD_some (by rw [e1]; exact Nat.mod_lt _ p1)
        have g2 : r2[(((0 : Int) + (i : Int)) % (b2 : Int)).toNat]? = some ((r2[i % b2]?).getD 0) := by
          rw [show ((0 : Int) + (i : Int)) % (b2 : Int) = ((i % b2 : Nat) : Int) by rw [Int.zero_add, Int.natCast_emod], Int.toNat_natCast]
          exact getD_some (by rw [e3]; exact Nat.mod_lt _ p2)
        walk_at "rd"
        refine r_ixSS (small (by omega)) (Int.emod_nonneg _ (by omega)) g1 ?_
        walk_at "rd"
        refine ⟨.inl ⟨rfl, _, Evl.sq_of upd_same⟩, ?_⟩
        walk_at "rd"
        have fin : ∀ x, x = togF b r b2 r2 i → rAppend (.ref D) [.str (S [x])] (upd H D (.lst (((List.range i).map (togF b r b2 r2)).map fun c => .str (S [c])))) fun _ H1 => J (i + 1) [some (.int (b : Int)), some (.str (S r)), some (.int (b2 : Int)), some (.str (S r2)), some (.int (m : Int)), some (.ref D), some (.int ((0 : Int) + (i : Int))), some (.str (S [(r[i % b]?).getD 0]))] H1 := by
          intro x hx
          refine ⟨D, _, _, rfl, rfl, upd_same, ?_, _, _, rfl, ?_⟩
          · rw [List.length_map, List.length_map, List.length_range, sizeLine_eq]
            omega
          · rw [upd_upd, List.range_succ, List.map_append, List.map_append, hx]
            rfl
        refine r_ite (fun z => ?_) (fun z => ?_)
        · walk_at "rd"
          refine r_ixSS (small (by omega)) (Int.emod_nonneg _ (by omega)) g2 ?_
          exact fin _ (by unfold togF; rw [if_pos (by injection z)])
        · walk_at "rd"
          exact fin _ (by unfold togF; rw [if_neg (fun y => z (by rw [y]))])
      · obtain ⟨o, o2, rfl, rfl⟩ := hJ
        walk_at "rd"
        refine r_joinC (Evl.sq_of upd_same) (by rw [List.length_map, List.length_range]; omega) ?_
        walk_at "rd"
        refine ⟨small (by show 2 ≤ 1000000; decide), fun p hp => ?_⟩
        refine q p _ ((Evl.Ex.new hD).trans (Evl.Ex.new hp)) ?_
        rw [upd_same, et]
        rfl
def spSize (C : Addr) : Sp := fun vs H Q E => ∃ (l : List Nat) (i d : Nat) (ds : List Nat), vs = [.str (S l), .int (i : Int), .int ((i + (ds.length + 1) : Nat) : Int)] ∧ l.length ≤ 5000 ∧ dsOf (l.drop i) = d :: ds ∧ (d = 48 → Wish C "at" (.int (i : Int)) H E) ∧ (d ≠ 48 → Q (.int ((dval ((d :: ds).take 3) : Nat) : Int)) H)
theorem ds_get {l : List Nat} {i d : Nat} {ds : List Nat} (h : dsOf (l.drop i) = d :: ds) : l[i]? = some d ∧ i < l.length := by
  have e := ds_rs (l.drop i)
  rw [h] at e
  have e2 : l[i]? = some d := by
    have : (l.drop i)[0]? = some d := by rw [← e]; rfl
    rwa [List.getElem?_drop, Nat.add_zero] at this
  exact ⟨e2, (List.getElem?_eq_some_iff.mp e2).1⟩
theorem ds_take {l : List Nat} {i d : Nat} {ds : List Nat} {k : Nat} (h : dsOf (l.drop i) = d :: ds) (hk : k = min 3 (ds.length + 1)) : (l.drop i).take k = (d :: ds).take 3 := by
  have e := ds_rs (l.drop i)
  rw [h] at e
  rw [← e, List.take_append_of_le_length (by rw [List.length_cons]; omega), hk]
  rcases Nat.le_total 3 (ds.length + 1) with z | z
  · rw [Nat.min_eq_left z]
  · rw [Nat.min_eq_right z, List.take_of_length_le (by rw [List.length_cons]; omega), List.take_of_length_le (by rw [List.length_cons]; omega)]
abbrev s_size_of_run : Stmt := topS 26
abbrev N_size_of_run : List Str := ["text", "at", "end"]
theorem sc_size_of_run : FnScope ["text", "at", "end"] ["text", "at", "end"] (defScope s_size_of_run) := ⟨rfl, rfl, rfl, by decide +kernel, rfl, by decide +kernel, by decide +kernel⟩
theorem can_size_of_run (T : Bi mg) (F : Defd K mg "size_of_run" s_size_of_run ["text", "at", "end"]) {A_BadText : Addr} (E_BadText : Err P w K mg base "BadText" A_BadText "at") : Can P w K mg base (L2.CX P w) 3 "size_of_run" ["text", "at", "end"] (spSize A_BadText) := by
  refine canX F sc_size_of_run (fun vs H Q E h => ?_) (fun f cdv A outer s H vs Q E hr h => ⟨_, (pss_cons (ps_if (pt_cmpR op_eq (pe_ix ix_strS (pv 0) (pv 1) (fun _ _ => rfl)) (pe_strL [48] (by decide +kernel)) (nomark _)) (pss_one (ps_raise rfl (takes_of rfl rfl rfl rfl) (pmk_err E_BadText hr (by decide) rfl (pa_cons (pv 1) pa_nil)))) pss_nil)
  (pss_one (ps_ret (pe_callTy call_int_str (by rfl) T.b_int boot_int (pa_cons (pe_slice sl_strS (pv 0) (po_some (pv 1)) (po_some (pe_callB (call_min2 rfl) (by rfl) T.b_min boot_min (pa_cons (pv 2) (pa_cons (pe_op op_add (pv 1) pe_int) pa_nil))))) pa_nil))))), ?_⟩)
  · obtain ⟨_, _, _, _, rfl, _⟩ := h
    rfl
  · obtain ⟨l, i, d, ds, rfl, hl, hd, w1, q⟩ := h
    obtain ⟨g, gi⟩ := ds_get hd
    have g' : l[(i : Int).toNat]? = some d := by rw [Int.toNat_natCast]; exact g
    walk_at "rd"
    refine r_ixSS (small (by omega)) (by omega) g' ?_
    walk_at "rd"
    refine r_ite (fun h => ?_) (fun h => ?_)
    · walk_at "rd"
      exact r_mk (w1 (by injection h))
    · walk_at "rd"
      refine ⟨_, _, rfl, ?_⟩
      have ek : (if ((i : Int) + 3) < (((i + (ds.length + 1) : Nat)) : Int) then ((i : Int) + 3) else (((i + (ds.length + 1) : Nat)) : Int)) = ((i + min 3 (ds.length + 1) : Nat) : Int) := by
        split <;> omega
      rw [ek]
      walk_at "rd"
      rw [cut_mid (by omega) (by omega), Int.toNat_natCast, Int.toNat_natCast, show i + min 3 (ds.length + 1) - i = min 3 (ds.length + 1) by omega, ds_take hd rfl]
      have hx : ∀ c ∈ (d :: ds).take 3, isDig c = true := fun c hc => by
        have := ds_dig (l.drop i) c
        rw [hd] at this
        exact this (List.mem_of_mem_take hc)
      refine ⟨_, _, rfl, int_digits (by simp) (by rw [List.length_take]; omega) hx, ?_, q fun z => h (by rw [z])⟩
      rw [S_len, List.length_take]
      omega
def whl (s : List Nat) (b : Nat) : Option Nat := match dsOf s with
  | [] => none
  | d :: ds => if d = 48 then none else if b ≤ dval ((d :: ds).take 3) ∧ dval ((d :: ds).take 3) ≤ 24 then some (dval ((d :: ds).take 3)) else none
theorem rdWhole_eq (s : List Nat) (b : Nat) (row : List Nat) : rdWhole s b row = match whl s b with
  | none => .error s.length
  | some w => .ok (rsOf s, w, row ++ List.replicate (w - b) 46) := by
  unfold rdWhole whl
  cases dsOf s with
  | nil => rfl
  | cons d ds =>
    show (if d = 48 then _ else _) = _
    by_cases h : d = 48
    · rw [if_pos h]
      simp only [if_pos h]
    · rw [if_neg h]
      simp only [if_neg h]
      by_cases h2 : b ≤ dval ((d :: ds).take 3) ∧ dval ((d :: ds).take 3) ≤ 24
      · rw [if_pos h2]
        simp only [if_pos h2]
      · rw [if_neg h2]
        simp only [if_neg h2]
def spWhole (C : Addr) : Sp := fun vs H Q E => ∃ (l : List Nat) (i b : Nat), vs = [.str (S l), .int (i : Int), .int (b : Int)] ∧ l.length ≤ 5000 ∧ (whl (l.drop i) b = none → Wish C "at" (.int (i : Int)) H E) ∧
  ∀ w p H', whl (l.drop i) b = some w → Ex H H' → H' p = some (.tup [.int ((i + (dsOf (l.drop i)).length : Nat) : Int), .int (w : Int)]) → Q (.ref p) H'
abbrev s_read_whole : Stmt := topS 29
abbrev N_read_whole : List Str := ["text", "at", "beats", "end", "whole"]
theorem sc_read_whole : FnScope ["text", "at", "beats", "end", "whole"] ["text", "at", "beats"] (defScope s_read_whole) := ⟨rfl, rfl, rfl, by decide +kernel, rfl, by decide +kernel, by decide +kernel⟩
theorem can_read_whole (T : Bi mg) (F : Defd K mg "read_whole" s_read_whole ["text", "at", "beats"]) (c_MOST_BEATS : ∃ u, mg "MOST_BEATS" = some u ∧ RelV (.int 24) u) {A_BadText : Addr} (E_BadText : Err P w K mg base "BadText" A_BadText "at") (C_end_of_run : Can P w K mg base L2.CX0 1 "end_of_run" ["text", "at"] spEnd) (C_size_of_run : Can P w K mg base (L2.CX P w) 3 "size_of_run" ["text", "at", "end"] (spSize A_BadText)) : Can P w K mg base (L2.CX P w) 4 "read_whole" ["text", "at", "beats"] (spWhole A_BadText) := by
  refine canX F sc_read_whole (fun vs H Q E h => ?_) (fun f cdv A outer s H vs Q E hr h => ⟨_, (pss_cons (ps_set (i := 3) sc_read_whole.nd rfl (by first | exact Or.inl rfl | exact Or.inr rfl) (pe_can C_end_of_run hr (by decide) rfl (pa_cons (pv 0) (pa_cons (pv 1) pa_nil))))
  (pss_cons (ps_if (pt_cmpR op_eq (pv 3) (pv 1) (nomark _)) (pss_one (ps_raise rfl (takes_of rfl rfl rfl rfl) (pmk_err E_BadText hr (by decide) rfl (pa_cons (pv 1) pa_nil)))) pss_nil)
  (pss_cons (ps_set (i := 4) sc_read_whole.nd rfl (by first | exact Or.inl rfl | exact Or.inr rfl) (pe_canX C_size_of_run hr (by decide) rfl (passes_call (takes_of rfl rfl rfl rfl) (fun _ _ _ _ h => h)) (pa_cons (pv 0) (pa_cons (pv 1) (pa_cons (pv 3) pa_nil)))))
  (pss_cons (ps_if (pt_not (pt_chain op_le op_le (pv 2) (pv 4) (C8.pe_gc rfl c_MOST_BEATS))) (pss_one (ps_raise rfl (takes_of rfl rfl rfl rfl) (pmk_err E_BadText hr (by decide) rfl (pa_cons (pv 1) pa_nil)))) pss_nil)
  (pss_one (ps_ret (pe_tup (pa_cons (pv 3) (pa_cons (pv 4) pa_nil))))))))), ?_⟩)
  · obtain ⟨_, _, _, rfl, _⟩ := h
    rfl
  · obtain ⟨l, i, b, rfl, hl, w1, q⟩ := h
    walk_at "rd"
    refine ⟨l, i, rfl, by omega, ?_⟩
    walk_at "rd"
    cases hd : dsOf (l.drop i) with
    | nil =>
      refine r_ite (fun h => ?_) (fun h => absurd (by rw [List.length_nil, Nat.add_zero]) h)
      walk_at "rd"
      exact r_mk (w1 (by unfold whl; rw [hd]))
    | cons d ds =>
      refine r_ite (fun h => absurd h (by rw [List.length_cons]; omega)) (fun _ => ?_)
      walk_at "rd"
      refine ⟨l, i, d, ds, rfl, hl, hd, fun h => w1 (by unfold whl; rw [hd]; simp only [if_pos h]), fun h => ?_⟩
      walk_at "rd"
      have hw : whl (l.drop i) b = if b ≤ dval ((d :: ds).take 3) ∧ dval ((d :: ds).take 3) ≤ 24 then some (dval ((d :: ds).take 3)) else none := by
        unfold whl
        rw [hd]
        simp only [if_neg h]
      generalize dval ((d :: ds).take 3) = t at hw
      refine r_ite (fun h1 => ?_) (fun h1 => ?_)
      · walk_at "rd"
        refine r_iteN (fun h2 => ?_) (fun h2 => ?_)
        · walk_at "rd"
          exact r_mk (w1 (by rw [hw, if_neg (by omega)]))
        · walk_at "rd"
          refine ⟨small (by show 2 ≤ 1000000; decide), fun p hp => ?_⟩
          refine q t p _ (by rw [hw, if_pos (by omega)]) (Evl.Ex.new hp) ?_
          rw [upd_same, hd]
      · walk_at "rd"
        exact r_mk (w1 (by rw [hw, if_neg (by omega)]))
end
end Fk

set_option Elab.async false
set_option linter.all false
set_option maxRecDepth 100000
set_option maxHeartbeats 4000000
namespace Fk
open PySem PySem.Spec PyProof.Rows L2 Fg Rt
local macro_rules | `(tactic| walk_at "rd1") => `(tactic| first
  | with_reducible refine r_seq ?_
  | with_reducible refine r_asg ?_
  | with_reducible refine r_gname ?_
  | with_reducible refine r_gsub ?_
  | with_reducible refine r_ret ?_
  | with_reducible refine r_retN ?_
  | with_reducible refine r_next ?_
  | with_reducible refine r_drop ?_
  | with_reducible refine r_ifS ?_
  | with_reducible refine r_if ?_
  | with_reducible refine r_par ?_
  | with_reducible refine r_pair ?_
  | with_reducible refine r_test ?_
  | with_reducible refine r_tB ?_
  | with_reducible refine r_not ?_
  | with_reducible refine r_and ?_
  | with_reducible refine r_or ?_
  | with_reducible refine r_andV ?_
  | with_reducible refine r_orV ?_
  | with_reducible refine r_notV ?_
  | with_reducible refine r_nil ?_
  | with_reducible refine r_cons ?_
  | with_reducible refine r_call ?_
  | with_reducible refine r_callS ?_
  | with_reducible refine r_cb ?_
  | with_reducible refine r_then ?_
  | with_reducible refine r_tup ?_
  | with_reducible refine r_lst ?_
  | with_reducible refine r_sl ?_
  | with_reducible refine r_nopart ?_
  | with_reducible refine r_part ?_
  | with_reducible refine r_lcR1 ?_
  | with_reducible refine r_lcR2 ?_
  | with_reducible refine r_lcL ?_
  | with_reducible refine r_lcT ?_
  | with_reducible refine r_forR1 ?_
  | with_reducible refine r_forR2 ?_
  | with_reducible refine r_forL ?_
  | with_reducible refine r_forT ?_
  | with_reducible refine r_forE ?_
  | with_reducible refine r_strE ?_
  | ((with_reducible refine r_rng1 ?hc ?_); (case hc => omega))
  | ((with_reducible refine r_rng2 ?hc ?_); (case hc => omega))
  | ((with_reducible refine' r_refL ?hc ?_); (case hc => first | assumption | exact Evl.sq_of (by assumption)))
  | ((with_reducible refine' r_refT ?hc ?_); (case hc => first | assumption | exact Evl.st_of (by assumption)))
  | with_reducible refine r_op ?_
  | with_reducible refine r_un ?_
  | with_reducible refine r_chain ?_
  | ((with_reducible refine' r_var ?hv ?_); (case hv => exact rfl))
  | with_reducible refine r_cS ?_
  | with_reducible refine r_cs ?_
  | with_reducible refine r_c ?_
  | with_reducible refine r_yes ?_
  | with_reducible refine r_bm ?_
  | with_reducible refine r_bl ?_
  | with_reducible refine r_in ?_
  | with_reducible refine r_ty ?_
  | with_reducible refine r_I0 ?_
  | ((with_reducible refine r_I ?hc ?_); (case hc => first | assumption | (show (0 : Int) < _; decide) | exact Or.inr ⟨by decide, by decide⟩ | exact Or.inr ⟨by omega, by omega⟩ | exact Or.inl ⟨by decide, by decide⟩ | exact (show CDivW _ _ from ⟨by decide, by decide +kernel⟩) | exact (show CPowW _ _ from ⟨by decide, by decide +kernel⟩) | (show (0 : Int) < _; omega)))
  | with_reducible refine r_U ?_
  | with_reducible refine r_eqI ?_
  | with_reducible refine r_neI ?_
  | with_reducible refine r_eqS ?_
  | with_reducible refine r_neS ?_
  | with_reducible refine r_eqB ?_
  | with_reducible refine r_neB ?_
  | with_reducible refine r_niS ?_
  | with_reducible refine r_inSS ?_
  | ((with_reducible refine r_slSS ?hc ?_); (case hc => first | exact small (by omega) | exact small (by simp; omega)))
  | ((with_reducible refine r_lenS ?hc ?_); (case hc => first | exact small (by omega) | exact small (by simp; omega)))
  | ((with_reducible refine' r_lenL ?hc ?_); (case hc => first | assumption | exact Evl.sq_of (by assumption)))
  | ((with_reducible refine' r_lenT ?hc ?_); (case hc => first | assumption | exact Evl.st_of (by assumption)))
  | ((with_reducible refine' r_ixL ?h1 ?h2 ?h3 ?_); (case h1 => first | assumption | exact Evl.sq_of (by assumption) | exact Evl.sq_of upd_same); (case h2 => first | decide | omega); (case h3 => first | exact rfl | assumption))
  | ((with_reducible refine' r_ixT ?h1 ?h2 ?h3 ?_); (case h1 => first | assumption | exact Evl.st_of (by assumption)); (case h2 => first | decide | omega); (case h3 => first | exact rfl | assumption))
  | with_reducible refine r_T ?_
  | with_reducible refine r_notNn ?_
  | with_reducible refine r_notN_int ?_
  | with_reducible refine r_notN_str ?_
  | with_reducible refine r_notN_ref ?_
  | with_reducible refine r_isNn ?_
  | with_reducible refine r_isN_int ?_
  | with_reducible refine r_isN_str ?_
  | with_reducible refine r_isN_ref ?_
  | ((with_reducible refine' r_isi ?ht ?hk ?_); (case ht => first | exact .base (.int _) | exact .base (.bl _) | exact .base (.str _) | exact .base .non | exact .base (.lst (by assumption)) | exact .base (.tup (by assumption))); (case hk => first | exact kb_int_int | exact kb_int_bool | exact kb_int_str | exact kb_int_list | exact kb_int_tuple | exact kb_bool_int | exact kb_bool_bool | exact kb_bool_str | exact kb_bool_list | exact kb_bool_tuple | exact kb_str_int | exact kb_str_bool | exact kb_str_str | exact kb_str_list | exact kb_str_tuple | exact kb_NoneType_int | exact kb_NoneType_bool | exact kb_NoneType_str | exact kb_NoneType_list | exact kb_NoneType_tuple | exact kb_list_int | exact kb_list_bool | exact kb_list_str | exact kb_list_list | exact kb_list_tuple | exact kb_tuple_int | exact kb_tuple_bool | exact kb_tuple_str | exact kb_tuple_list | exact kb_tuple_tuple))
  | with_reducible refine r_F ?_
  | with_reducible refine r_nT ?_
  | with_reducible refine r_nF ?_
  | with_reducible refine r_mko ?_
  | with_reducible refine r_xf ?_
  | ((with_reducible refine' r_sum ?hc ?_); (case hc => first | assumption | exact Evl.sq_of (by assumption)))
  | ((with_reducible refine' r_setL ?h1 ?h2 ?h3 ?_); (case h1 => first | assumption | exact upd_same); (case h2 => first | decide | omega); (case h3 => first | (show _ < _; decide) | (simp; done)))
  | with_reducible refine r_int ?_
  | with_reducible refine r_abs ?_)
local macro_rules | `(tactic| walk_at "rd") => `(tactic| repeat (walk_at "rd1"))

section
variable {P : Program} {w : World} {K : PySem.W.Frag} {mg : Str → Option Value} {base : Heap}
def OutR (C : Addr) (l : List Nat) (o : Res) (H : Hp) (Q : VK) (E : XK) : Prop := match o with
  | .error e => Wish C "at" (.int ((l.length - e : Nat) : Int)) H E
  | .ok g => ∀ p H', Ex H H' → H' p = some (.tup [.int ((l.length - g.1.length : Nat) : Int), .int (g.2.1 : Int), .str (S g.2.2)]) → Q (.ref p) H'
theorem OutR.ex {C : Addr} {l : List Nat} {o : Res} {H H' : Hp} {Q : VK} {E : XK} (h : OutR C l o H Q E) (e : Ex H H') : OutR C l o H' Q E := by
  cases o with
  | error x => exact Wish.ex h e
  | ok g => exact fun p H2 e2 h2 => h p H2 (e.trans e2) h2
theorem OutR.bad {C : Addr} {l : List Nat} {o : Res} {H : Hp} {Q : VK} {E : XK} {e : Nat} {z : Int} (h : OutR C l o H Q E) (he : o = .error e) (hz : z = ((l.length - e : Nat) : Int)) : Wish C "at" (.int z) H E := by
  subst he
  rw [hz]
  exact h
theorem OutR.good {C : Addr} {l : List Nat} {o : Res} {H : Hp} {Q : VK} {E : XK} {g : Got} (h : OutR C l o H Q E) (he : o = .ok g) {p : Addr} {H' : Hp} (ex : Ex H H') {z y : Int} {r : List Nat} (hp : H' p = some (.tup [.int z, .int y, .str (S r)])) (hz : z = ((l.length - g.1.length : Nat) : Int)) (hy : y = (g.2.1 : Int)) (hr : r = g.2.2) : Q (.ref p) H' := by
  subst he
  subst hz hy hr
  exact h p H' ex hp
def spParts (C : Addr) (n : Nat) : Sp := fun vs H Q E => ∃ (l : List Nat) (i : Nat), vs = [.str (S l), .int (i : Int), .int (6 - (n : Int))] ∧ l.length ≤ 2000 ∧ i ≤ l.length ∧ OutR C l (rdAt n (decide (n = 6)) (l.drop i)) H Q E
def spBelow (C : Addr) : Nat → Sp
  | 0 => fun _ _ _ _ => False
  | n + 1 => spParts C n
def spItem (C : Addr) (n : Nat) : Sp := fun vs H Q E => ∃ (l : List Nat) (i : Nat), vs = [.str (S l), .int (i : Int), .int (6 - (n : Int))] ∧ n ≤ 6 ∧ l.length ≤ 2000 ∧ i ≤ l.length ∧ goes (l.drop i) = true ∧ OutR C l (rdItem (innerOf n) (l.drop i)) H Q E
theorem r_gtup3 {K : PySem.W.Frag} {σ : L2.St} {H : Hp} {a : Addr} {n i j m : Nat} {x y z : V} {Q : L2.St → Hp → Prop} (hn : n = 3) (h : SqT K H a [x, y, z]) (q : Q (((σ.set i (some x)).set j (some y)).set m (some z)) H) : gTup K n (gCons (gName i) (gCons (gName j) (gCons (gName m) gNil))) (.ref a) σ H Q := by
  subst hn
  exact ⟨a, [x, y, z], rfl, h, rfl, x, [y, z], rfl, y, [z], rfl, z, [], rfl, rfl, q⟩
theorem big_lt {k b : Nat} (hk : k ≤ 2000) (h : b ≤ 2 ^ (6 * k)) : b < 2 ^ 13000 := Nat.lt_of_le_of_lt h (Nat.pow_lt_pow_right (by decide) (by omega))
theorem flat_one (t c : Nat) : (List.replicate t [c]).flatten = List.replicate t c := by
  induction t with
  | zero => rfl
  | succ t ih => rw [List.replicate_succ, List.flatten_cons, ih, List.replicate_succ]; rfl
theorem one_le {l : List Nat} {i : Nat} : ((l.drop i).take 1).length ≤ 1 := by rw [List.length_take]; omega
abbrev s_read_item : Stmt := topS 30
abbrev N_read_item : List Str := ["text", "at", "deep", "end", "char", "times", "closing", "beats", "row"]
theorem sc_read_item : FnScope ["text", "at", "deep", "end", "char", "times", "closing", "beats", "row"] ["text", "at", "deep"] (defScope s_read_item) := ⟨rfl, rfl, rfl, by decide +kernel, rfl, by decide +kernel, by decide +kernel⟩
theorem can_read_item (T : Bi mg) (F : Defd K mg "read_item" s_read_item ["text", "at", "deep"]) {n k : Nat} (hk : 3 ≤ k) (c_LEAST_TIMES : ∃ u, mg "LEAST_TIMES" = some u ∧ RelV (.int 2) u) (c_MOST_TIMES : ∃ u, mg "MOST_TIMES" = some u ∧ RelV (.int 24) u) (c_MOST_DEEP : ∃ u, mg "MOST_DEEP" = some u ∧ RelV (.int 6) u) {A_BadText : Addr} (E_BadText : Err P w K mg base "BadText" A_BadText "at") (C_end_of_run : Can P w K mg base L2.CX0 1 "end_of_run" ["text", "at"] spEnd) (C_size_of_run : Can P w K mg base (L2.CX P w) 3 "size_of_run" ["text", "at", "end"] (spSize A_BadText)) (C_char_at : Can P w K mg base L2.CX0 1 "char_at" ["text", "at"] spChar) (C_is_sign : Can P w K mg base L2.CX0 1 "is_sign" ["thing"] spIsSign) (C_kept : Can P w K mg base L2.CX0 1 "kept" ["beats", "row"] spKept) (C_read_parts : Can P w K mg base (L2.CX P w) k "read_parts" ["text", "at", "deep"] (spBelow A_BadText n)) : Can P w K mg base (L2.CX P w) (k + 1) "read_item" ["text", "at", "deep"] (spItem A_BadText n) := by
  refine canX F sc_read_item (fun vs H Q E h => ?_) (fun f cdv A outer s H vs Q E hr h => ⟨_, (pss_cons (ps_set (i := 3) sc_read_item.nd rfl (by first | exact Or.inl rfl | exact Or.inr rfl) (pe_can C_end_of_run hr (by omega) rfl (pa_cons (pv 0) (pa_cons (pv 1) pa_nil))))
  (pss_cons (ps_set (i := 4) sc_read_item.nd rfl (by first | exact Or.inl rfl | exact Or.inr rfl) (pe_can C_char_at hr (by omega) rfl (pa_cons (pv 0) (pa_cons (pv 3) pa_nil))))
  (pss_cons (ps_if (pt_cmpR op_eq (pv 3) (pv 1) (nomark _)) (pss_one (ps_ret (pe_tup (pa_cons (pe_op op_add (pv 1) pe_int) (pa_cons pe_int (pa_cons (pv 4) pa_nil)))))) pss_nil)
  (pss_cons (ps_set (i := 5) sc_read_item.nd rfl (by first | exact Or.inl rfl | exact Or.inr rfl) (pe_canX C_size_of_run hr (by omega) rfl (passes_call (takes_of rfl rfl rfl rfl) (fun _ _ _ _ h => h)) (pa_cons (pv 0) (pa_cons (pv 1) (pa_cons (pv 3) pa_nil)))))
  (pss_cons (ps_if (PW.pt (pw_and (pt_not (pt_val (pe_can C_is_sign hr (by omega) rfl (pa_cons (pv 4) pa_nil)))) (pw_and1 (pt_cmpR op_ne (pv 4) (pe_strL [40] (by decide +kernel)) (nomark _))))) (pss_one (ps_raise rfl (takes_of rfl rfl rfl rfl) (pmk_err E_BadText hr (by omega) rfl (pa_cons (pv 3) pa_nil)))) pss_nil)
  (pss_cons (ps_if (pt_not (pt_chain op_le op_le (C8.pe_gc rfl c_LEAST_TIMES) (pv 5) (C8.pe_gc rfl c_MOST_TIMES))) (pss_one (ps_raise rfl (takes_of rfl rfl rfl rfl) (pmk_err E_BadText hr (by omega) rfl (pa_cons (pv 1) pa_nil)))) pss_nil)
  (pss_cons (ps_if (pt_val (pe_can C_is_sign hr (by omega) rfl (pa_cons (pv 4) pa_nil))) (pss_one (ps_ret (pe_tup (pa_cons (pe_op op_add (pv 3) pe_int) (pa_cons (pv 5) (pa_cons (pe_op op_repS (pv 4) (pv 5)) pa_nil)))))) pss_nil)
  (pss_cons (ps_if (pt_cmpR op_eq (pv 2) (C8.pe_gc rfl c_MOST_DEEP) (nomark _)) (pss_one (ps_raise rfl (takes_of rfl rfl rfl rfl) (pmk_err E_BadText hr (by omega) rfl (pa_cons (pv 3) pa_nil)))) pss_nil)
  (pss_cons (ps_asg (pe_canX C_read_parts hr (by omega) rfl (passes_call (takes_of rfl rfl rfl rfl) (fun _ _ _ _ h => h)) (pa_cons (pv 0) (pa_cons (pe_op op_add (pv 3) pe_int) (pa_cons (pe_op op_add (pv 2) pe_int) pa_nil)))) (pg_tup rfl (pgs_cons (pg_name (i := 6) sc_read_item.nd rfl (by first | exact Or.inl rfl | exact Or.inr rfl)) (pgs_cons (pg_name (i := 7) sc_read_item.nd rfl (by first | exact Or.inl rfl | exact Or.inr rfl)) (pgs_cons (pg_name (i := 8) sc_read_item.nd rfl (by first | exact Or.inl rfl | exact Or.inr rfl)) pgs_nil)))))
  (pss_one (ps_ret (pe_tup (pa_cons (pe_op op_add (pv 6) pe_int) (pa_cons (pe_op op_mulW (pv 5) (pv 7)) (pa_cons (pe_can C_kept hr (by omega) rfl (pa_cons (pe_op op_mulW (pv 5) (pv 7)) (pa_cons (pe_op op_repS (pv 8) (pv 5)) pa_nil))) pa_nil))))))))))))))), ?_⟩)
  · obtain ⟨_, _, rfl, _⟩ := h
    rfl
  · obtain ⟨l, i, rfl, hn, hl, hi, hg, q⟩ := h
    have sl : (l.drop i).length = l.length - i := List.length_drop
    walk_at "rd"
    refine ⟨l, i, rfl, by omega, ?_⟩
    walk_at "rd"
    refine ⟨l, _, rfl, by omega, ?_⟩
    walk_at "rd"
    have hrs := rs_drop (l.drop i)
    rw [List.drop_drop] at hrs
    rw [← hrs]
    cases hd : dsOf (l.drop i) with
    | nil =>
      refine r_ite (fun h => ?_) (fun h => absurd (by rw [List.length_nil, Nat.add_zero]) h)
      walk_at "rd"
      have hr0 : rsOf (l.drop i) = l.drop i := by rw [hrs, hd, List.length_nil, Nat.add_zero]
      have s1 : 1 ≤ (l.drop i).length := by
        cases hs : l.drop i with
        | nil => rw [hs] at hg; cases hg
        | cons a b => simp
      have ho : rdItem (innerOf n) (l.drop i) = .ok ((l.drop i).drop 1, 1, (l.drop i).take 1) := by
        unfold rdItem
        rw [hd]
      refine ⟨small (by show 3 ≤ 1000000; decide), fun p hp => ?_⟩
      refine q.good ho (Evl.Ex.new hp) upd_same ?_ rfl (by rw [hr0])
      show (i : Int) + 1 = ((l.length - ((l.drop i).drop 1).length : Nat) : Int)
      rw [List.length_drop]
      omega
    | cons d ds =>
      refine r_ite (fun h => absurd h (by rw [List.length_cons]; omega)) (fun _ => ?_)
      walk_at "rd"
      have hlr := len_rs (l.drop i)
      rw [hd, List.length_cons] at hlr
      have ho0 : d = 48 → rdItem (innerOf n) (l.drop i) = .error (l.drop i).length := fun h => by
        unfold rdItem
        rw [hd]
        simp only [if_pos h]
      refine ⟨l, i, d, ds, rfl, by omega, hd, fun h => q.bad (ho0 h) (by rw [sl]; omega), fun h48 => ?_⟩
      clear ho0
      walk_at "rd"
      cases hc : rsOf (l.drop i) with
      | nil =>
        have ho : rdItem (innerOf n) (l.drop i) = .error 0 := by
          unfold rdItem
          rw [hd]
          simp only [if_neg h48]
          rw [hc]
        rw [hc] at hlr
        refine ⟨[], rfl, by decide, ?_⟩
        walk_at "rd"
        refine r_iteN (fun _ => ?_) (fun z => absurd z (by decide))
        walk_at "rd"
        refine r_mk (q.bad ho ?_)
        rw [List.length_nil] at hlr
        rw [List.length_cons]
        omega
      | cons c r =>
        rw [hc, List.length_cons] at hlr
        have ho : rdItem (innerOf n) (l.drop i) = (if isSg c = true then (if 2 ≤ dval ((d :: ds).take 3) ∧ dval ((d :: ds).take 3) ≤ 24 then .ok (r, dval ((d :: ds).take 3), List.replicate (dval ((d :: ds).take 3)) c) else .error (l.drop i).length)
          else if c = 40 then (if 2 ≤ dval ((d :: ds).take 3) ∧ dval ((d :: ds).take 3) ≤ 24 then grp (innerOf n) (dval ((d :: ds).take 3)) r else .error (l.drop i).length)
          else .error (r.length + 1)) := by
          unfold rdItem
          rw [hd]
          simp only [if_neg h48]
          rw [hc]
        have er : r = l.drop (i + (ds.length + 1) + 1) := by
          have e : (c :: r).drop 1 = (l.drop (i + (ds.length + 1))).drop 1 := by rw [← hc, hrs, hd, List.length_cons]
          rw [List.drop_drop] at e
          simpa using e
        have le24 : dval ((d :: ds).take 3) ≤ 24 → dval ((d :: ds).take 3) < 2 ^ 10 := fun z => by omega
        generalize dval ((d :: ds).take 3) = t at ho le24 ⊢
        refine ⟨[c], rfl, Nat.le_refl 1, ?_⟩
        walk_at "rd"
        -- behind the first test
        refine r_iteNB (fun hs => ?_) (fun hs => ?_)
        · have hs' : isSg c = false := hs
          rw [hs', if_neg (by decide)] at ho
          walk_at "rd"
          refine r_iteN (fun h40 => ?_) (fun h40 => ?_)
          · have n40 : c ≠ 40 := fun z => h40 (by rw [z]; rfl)
            rw [if_neg n40] at ho
            walk_at "rd"
            refine r_mk (q.bad ho ?_)
            rw [List.length_cons]
            omega
          · have e40 : c = 40 := by injection h40
            subst e40
            rw [if_pos rfl] at ho
            walk_at "rd"
            refine r_ite (fun t2 => ?_) (fun t2 => ?_)
            · walk_at "rd"
              refine r_iteN (fun t24 => ?_) (fun t24 => ?_)
              · rw [if_neg (by omega)] at ho
                walk_at "rd"
                exact r_mk (q.bad ho (by rw [sl]; omega))
              · rw [if_pos (by omega)] at ho
                walk_at "rd"
                refine ⟨[40], rfl, Nat.le_refl 1, ?_⟩
                walk_at "rd"
                refine r_iteB (fun z => absurd (z.symm.trans hs) (by decide)) (fun _ => ?_)
                walk_at "rd"
                refine r_ite (fun hn6 => ?_) (fun hn6 => ?_)
                · have n0 : n = 0 := by omega
                  subst n0
                  walk_at "rd"
                  refine r_mk (q.bad ho ?_)
                  rw [List.length_cons]
                  omega
                · obtain ⟨m, rfl⟩ : ∃ m, n = m + 1 := ⟨n - 1, by omega⟩
                  have e1 : ((i + (d :: ds).length : Nat) : Int) + 1 = ((i + (ds.length + 1) + 1 : Nat) : Int) := by rw [List.length_cons]; omega
                  have e2 : (6 : Int) - ((m + 1 : Nat) : Int) + 1 = 6 - (m : Int) := by omega
                  have hm6 : decide (m = 6) = false := decide_eq_false (by omega)
                  walk_at "rd"
                  refine ⟨l, i + (ds.length + 1) + 1, by rw [e1, e2]; rfl, hl, by omega, ?_⟩
                  rw [← er, hm6]
                  have ho2 : rdItem (innerOf (m + 1)) (l.drop i) = match rdAt m false r with
                    | .error e => .error e
                    | .ok (r2, b, row) => .ok (r2.drop 1, t * b, kept (t * b) (rep t row)) := ho
                  cases ha : rdAt m false r with
                  | error e =>
                    rw [ha] at ho2
                    exact q.bad ho2 rfl
                  | ok g =>
                    obtain ⟨r2, b, row⟩ := g
                    rw [ha] at ho2
                    obtain ⟨Fi, ne⟩ := ok_at m false r _ ha
                    have ne2 : r2 ≠ [] := ne rfl
                    obtain ⟨k1, k2, k3, k4, k5⟩ := Fi.suf
                    have k4' : r2 = r.drop k1 := k4
                    have k5' : b ≤ 2 ^ (6 * k1) := k5
                    have rl : r2.length = r.length - k1 := by rw [k4', List.length_drop]
                    have r1 : 1 ≤ r2.length := by
                      cases r2 with
                      | nil => exact absurd rfl ne2
                      | cons a b => simp
                    have hmul : CMulW (t : Int) (b : Int) := wide_mul (a := 10) (b := 13000) (by rw [Int.natAbs_natCast]; omega) (by rw [Int.natAbs_natCast]; exact big_lt (by omega) k5') (by decide) (by decide) (by decide)
                    have rw24 : row.length ≤ 24 := by
                      rcases Nat.lt_or_ge 24 b with z | z
                      · rw [show row = [] from Fi.non z]; exact Nat.zero_le _
                      · rw [show row.length = b from (Fi.row z).1]; exact z
                    have hrep : row.length * t ≤ 1000 := Nat.le_trans (Nat.mul_le_mul rw24 (show t ≤ 24 by omega)) (by decide)
                    intro p H1 ex1 hp
                    walk_at "rd"
                    refine r_gtup3 rfl (Evl.st_of hp) ?_
                    walk_at "rd"
                    refine r_repS (by omega) (by omega) (small (by rw [Int.toNat_natCast]; exact Nat.le_trans hrep (by decide))) ?_
                    walk_at "rd"
                    refine ⟨t * b, rep t row, by rw [Int.natCast_mul, Int.toNat_natCast]; rfl, ?_⟩
                    walk_at "rd"
                    refine ⟨small (by show 3 ≤ 1000000; decide), fun p2 hp2 => ?_⟩
                    refine q.good ho2 (ex1.trans (Evl.Ex.new hp2)) upd_same ?_ (by rw [Int.natCast_mul]) rfl
                    show ((l.length - r2.length : Nat) : Int) + 1 = ((l.length - (r2.drop 1).length : Nat) : Int)
                    rw [List.length_drop]
                    omega
            · rw [if_neg (by omega)] at ho
              walk_at "rd"
              exact r_mk (q.bad ho (by rw [sl]; omega))
        · have hs' : isSg c = true := hs
          rw [if_pos hs'] at ho
          walk_at "rd"
          refine r_ite (fun t2 => ?_) (fun t2 => ?_)
          · walk_at "rd"
            refine r_iteN (fun t24 => ?_) (fun t24 => ?_)
            · rw [if_neg (by omega)] at ho
              walk_at "rd"
              exact r_mk (q.bad ho (by rw [sl]; omega))
            · rw [if_pos (by omega)] at ho
              walk_at "rd"
              refine ⟨[c], rfl, Nat.le_refl 1, ?_⟩
              walk_at "rd"
              refine r_iteB (fun _ => ?_) (fun z => absurd (z.symm.trans hs) (by decide))
              walk_at "rd"
              refine r_repS (by omega) (by omega) (small (by rw [Int.toNat_natCast]; show 1 * t ≤ _; omega)) ?_
              walk_at "rd"
              refine ⟨small (by show 3 ≤ 1000000; decide), fun p hp => ?_⟩
              refine q.good ho (Evl.Ex.new hp) upd_same ?_ rfl ?_
              · show ((i + (d :: ds).length : Nat) : Int) + 1 = ((l.length - r.length : Nat) : Int)
                rw [List.length_cons]
                omega
              · rw [Int.toNat_natCast]
                exact flat_one t c
          · rw [if_neg (by omega)] at ho
            walk_at "rd"
            exact r_mk (q.bad ho (by rw [sl]; omega))
end
end Fk

set_option Elab.async false
set_option linter.all false
set_option maxRecDepth 100000
set_option maxHeartbeats 4000000
namespace Fk
open PySem PySem.Spec PyProof.Rows L2 Fg Rt
local macro_rules | `(tactic| walk_at "rd1") => `(tactic| first
  | with_reducible refine r_seq ?_
  | with_reducible refine r_asg ?_
  | with_reducible refine r_gname ?_
  | with_reducible refine r_gsub ?_
  | with_reducible refine r_ret ?_
  | with_reducible refine r_retN ?_
  | with_reducible refine r_next ?_
  | with_reducible refine r_drop ?_
  | with_reducible refine r_ifS ?_
  | with_reducible refine r_if ?_
  | with_reducible refine r_par ?_
  | with_reducible refine r_pair ?_
  | with_reducible refine r_test ?_
  | with_reducible refine r_tB ?_
  | with_reducible refine r_not ?_
  | with_reducible refine r_and ?_
  | with_reducible refine r_or ?_
  | with_reducible refine r_andV ?_
  | with_reducible refine r_orV ?_
  | with_reducible refine r_notV ?_
  | with_reducible refine r_nil ?_
  | with_reducible refine r_cons ?_
  | with_reducible refine r_call ?_
  | with_reducible refine r_callS ?_
  | with_reducible refine r_cb ?_
  | with_reducible refine r_then ?_
  | with_reducible refine r_tup ?_
  | with_reducible refine r_lst ?_
  | with_reducible refine r_sl ?_
  | with_reducible refine r_nopart ?_
  | with_reducible refine r_part ?_
  | with_reducible refine r_lcR1 ?_
  | with_reducible refine r_lcR2 ?_
  | with_reducible refine r_lcL ?_
  | with_reducible refine r_lcT ?_
  | with_reducible refine r_forR1 ?_
  | with_reducible refine r_forR2 ?_
  | with_reducible refine r_forL ?_
  | with_reducible refine r_forT ?_
  | with_reducible refine r_forE ?_
  | with_reducible refine r_strE ?_
  | ((with_reducible refine r_rng1 ?hc ?_); (case hc => omega))
  | ((with_reducible refine r_rng2 ?hc ?_); (case hc => omega))
  | ((with_reducible refine' r_refL ?hc ?_); (case hc => first | assumption | exact Evl.sq_of (by assumption)))
  | ((with_reducible refine' r_refT ?hc ?_); (case hc => first | assumption | exact Evl.st_of (by assumption)))
  | with_reducible refine r_op ?_
  | with_reducible refine r_un ?_
  | with_reducible refine r_chain ?_
  | ((with_reducible refine' r_var ?hv ?_); (case hv => exact rfl))
  | with_reducible refine r_cS ?_
  | with_reducible refine r_cs ?_
  | with_reducible refine r_c ?_
  | with_reducible refine r_yes ?_
  | with_reducible refine r_bm ?_
  | with_reducible refine r_bl ?_
  | with_reducible refine r_in ?_
  | with_reducible refine r_ty ?_
  | with_reducible refine r_I0 ?_
  | ((with_reducible refine r_I ?hc ?_); (case hc => first | assumption | (show (0 : Int) < _; decide) | exact Or.inr ⟨by decide, by decide⟩ | exact Or.inr ⟨by omega, by omega⟩ | exact Or.inl ⟨by decide, by decide⟩ | exact (show CDivW _ _ from ⟨by decide, by decide +kernel⟩) | exact (show CPowW _ _ from ⟨by decide, by decide +kernel⟩) | (show (0 : Int) < _; omega)))
  | with_reducible refine r_U ?_
  | with_reducible refine r_eqI ?_
  | with_reducible refine r_neI ?_
  | with_reducible refine r_eqS ?_
  | with_reducible refine r_neS ?_
  | with_reducible refine r_eqB ?_
  | with_reducible refine r_neB ?_
  | with_reducible refine r_niS ?_
  | with_reducible refine r_inSS ?_
  | ((with_reducible refine r_slSS ?hc ?_); (case hc => first | exact small (by omega) | exact small (by simp; omega)))
  | ((with_reducible refine r_lenS ?hc ?_); (case hc => first | exact small (by omega) | exact small (by simp; omega)))
  | ((with_reducible refine' r_lenL ?hc ?_); (case hc => first | assumption | exact Evl.sq_of (by assumption)))
  | ((with_reducible refine' r_lenT ?hc ?_); (case hc => first | assumption | exact Evl.st_of (by assumption)))
  | ((with_reducible refine' r_ixL ?h1 ?h2 ?h3 ?_); (case h1 => first | assumption | exact Evl.sq_of (by assumption) | exact Evl.sq_of upd_same); (case h2 => first | decide | omega); (case h3 => first | exact rfl | assumption))
  | ((with_reducible refine' r_ixT ?h1 ?h2 ?h3 ?_); (case h1 => first | assumption | exact Evl.st_of (by assumption)); (case h2 => first | decide | omega); (case h3 => first | exact rfl | assumption))
  | with_reducible refine r_T ?_
  | with_reducible refine r_notNn ?_
  | with_reducible refine r_notN_int ?_
  | with_reducible refine r_notN_str ?_
  | with_reducible refine r_notN_ref ?_
  | with_reducible refine r_isNn ?_
  | with_reducible refine r_isN_int ?_
  | with_reducible refine r_isN_str ?_
  | with_reducible refine r_isN_ref ?_
  | ((with_reducible refine' r_isi ?ht ?hk ?_); (case ht => first | exact .base (.int _) | exact .base (.bl _) | exact .base (.str _) | exact .base .non | exact .base (.lst (by assumption)) | exact .base (.tup (by assumption))); (case hk => first | exact kb_int_int | exact kb_int_bool | exact kb_int_str | exact kb_int_list | exact kb_int_tuple | exact kb_bool_int | exact kb_bool_bool | exact kb_bool_str | exact kb_bool_list | exact kb_bool_tuple | exact kb_str_int | exact kb_str_bool | exact kb_str_str | exact kb_str_list | exact kb_str_tuple | exact kb_NoneType_int | exact kb_NoneType_bool | exact kb_NoneType_str | exact kb_NoneType_list | exact kb_NoneType_tuple | exact kb_list_int | exact kb_list_bool | exact kb_list_str | exact kb_list_list | exact kb_list_tuple | exact kb_tuple_int | exact kb_tuple_bool | exact kb_tuple_str | exact kb_tuple_list | exact kb_tuple_tuple))
  | with_reducible refine r_F ?_
  | with_reducible refine r_nT ?_
  | with_reducible refine r_nF ?_
  | with_reducible refine r_mko ?_
  | with_reducible refine r_xf ?_
  | ((with_reducible refine' r_sum ?hc ?_); (case hc => first | assumption | exact Evl.sq_of (by assumption)))
  | ((with_reducible refine' r_setL ?h1 ?h2 ?h3 ?_); (case h1 => first | assumption | exact upd_same); (case h2 => first | decide | omega); (case h3 => first | (show _ < _; decide) | (simp; done)))
  | with_reducible refine r_int ?_
  | with_reducible refine r_abs ?_)
local macro_rules | `(tactic| walk_at "rd") => `(tactic| repeat (walk_at "rd1"))

section
variable {P : Program} {w : World} {K : PySem.W.Frag} {mg : Str → Option Value} {base : Heap}
def spPart (C : Addr) (n : Nat) : Sp := fun vs H Q E => ∃ (l : List Nat) (i : Nat), vs = [.str (S l), .int (i : Int), .int (6 - (n : Int))] ∧ n ≤ 6 ∧ l.length ≤ 2000 ∧ i ≤ l.length ∧ OutR C l (rdPart (rdItem (innerOf n)) (l.drop i)) H Q E
theorem suf_pos {l s2 : List Nat} {j b : Nat} {r : List Nat} (F : Fine (l.drop j) (s2, b, r)) (hj : j ≤ l.length) : l.drop (l.length - s2.length) = s2 ∧ l.length - s2.length ≤ l.length ∧ j < l.length - s2.length := by
  obtain ⟨k, k1, k2, k3, _⟩ := F.suf
  have k3' : s2 = (l.drop j).drop k := k3
  rw [List.length_drop] at k2
  have e : s2.length = l.length - j - k := by rw [k3', List.length_drop, List.length_drop]
  refine ⟨?_, by omega, by omega⟩
  rw [e, show l.length - (l.length - j - k) = j + k by omega, k3', List.drop_drop]
theorem take_one (c : Nat) (r : List Nat) : (c :: r).take 1 = [c] := rfl
theorem items_stop {item : List Nat → Res} {s : List Nat} (h : goes s = false) : ∀ (f b : Nat) (r : List Nat), rdItems item f s b r = .ok (s, b, r)
  | 0, b, r => rfl
  | f + 1, b, r => by
    unfold rdItems
    rw [h]
    rfl
theorem items_go {item : List Nat → Res} {s : List Nat} {f b : Nat} {r : List Nat} (h : goes s = true) : rdItems item (f + 1) s b r = match item s with
  | .error e => .error e
  | .ok (s2, m, g) => rdItems item f s2 (b + m) (kept (b + m) (r ++ g)) := by
  show (if goes s = true then _ else _) = _
  rw [if_pos h]
  all_goals (cases item s <;> rfl)
theorem whl_le {s : List Nat} {b w : Nat} (h : whl s b = some w) : b ≤ w ∧ w ≤ 24 := by
  unfold whl at h
  split at h
  · cases h
  · split at h
    · cases h
    · split at h
      · cases h
        assumption
      · cases h
theorem row24 {b : Nat} {r : List Nat} (h : b ≤ 24 → r.length = b ∧ ∀ c ∈ r, isSg c = true) (k : 24 < b → r = []) : r.length ≤ 24 := by
  rcases Nat.lt_or_ge 24 b with z | z
  · rw [k z]; exact Nat.zero_le _
  · rw [(h z).1]; exact z
abbrev s_read_part : Stmt := topS 28
abbrev N_read_part : List Str := ["text", "at", "deep", "char", "beats", "row", "whole", "more", "signs"]
theorem sc_read_part : FnScope ["text", "at", "deep", "char", "beats", "row", "whole", "more", "signs"] ["text", "at", "deep"] (defScope s_read_part) := ⟨rfl, rfl, rfl, by decide +kernel, rfl, by decide +kernel, by decide +kernel⟩
theorem can_read_part (T : Bi mg) (F : Defd K mg "read_part" s_read_part ["text", "at", "deep"]) {n k : Nat} (hk : 3 ≤ k) (c_DIGITS : ∃ u, mg "DIGITS" = some u ∧ RelV (.str (S DGL)) u) (c_DARK : ∃ u, mg "DARK" = some u ∧ RelV (.str (S [46])) u) {A_BadText : Addr} (E_BadText : Err P w K mg base "BadText" A_BadText "at") (C_char_at : Can P w K mg base L2.CX0 1 "char_at" ["text", "at"] spChar) (C_is_sign : Can P w K mg base L2.CX0 1 "is_sign" ["thing"] spIsSign) (C_kept : Can P w K mg base L2.CX0 1 "kept" ["beats", "row"] spKept) (C_read_whole : Can P w K mg base (L2.CX P w) 4 "read_whole" ["text", "at", "beats"] (spWhole A_BadText)) (C_read_item : Can P w K mg base (L2.CX P w) (k + 1) "read_item" ["text", "at", "deep"] (spItem A_BadText n)) : Can P w K mg base (L2.CX P w) (k + 2) "read_part" ["text", "at", "deep"] (spPart A_BadText n) := by
  refine canX F sc_read_part (fun vs H Q E h => ?_) (fun f cdv A outer s H vs Q E hr h => ⟨_, (pss_cons (ps_asg (pe_tup (pa_cons pe_int (pa_cons (pe_strL [] (by decide +kernel)) pa_nil))) (pg_tup rfl (pgs_cons (pg_name (i := 4) sc_read_part.nd rfl (by first | exact Or.inl rfl | exact Or.inr rfl)) (pgs_cons (pg_name (i := 5) sc_read_part.nd rfl (by first | exact Or.inl rfl | exact Or.inr rfl)) pgs_nil))))
  (pss_cons (ps_set (i := 3) sc_read_part.nd rfl (by first | exact Or.inl rfl | exact Or.inr rfl) (pe_can C_char_at hr (by omega) rfl (pa_cons (pv 0) (pa_cons (pv 1) pa_nil))))
  (Evl.pss_cut (ps_while PassesOwn.leaving (PW.pt (pw_or (pt_val (pe_can C_is_sign hr (by omega) rfl (pa_cons (pv 3) pa_nil))) (pw_or1 (PW.pt (pw_and (pt_cmpR op_ne (pv 3) (pe_strL [] (by decide +kernel)) (nomark _)) (pw_and1 (pt_cmpR op_inSS (pv 3) (C8.pe_gc rfl c_DIGITS) (by rfl)))))))) (pss_cons (ps_asg (pe_canX C_read_item hr (by omega) rfl (passes_call (takes_of rfl rfl rfl rfl) (fun _ _ _ _ h => h)) (pa_cons (pv 0) (pa_cons (pv 1) (pa_cons (pv 2) pa_nil)))) (pg_tup rfl (pgs_cons (pg_name (i := 1) sc_read_part.nd rfl (by first | exact Or.inl rfl | exact Or.inr rfl)) (pgs_cons (pg_name (i := 7) sc_read_part.nd rfl (by first | exact Or.inl rfl | exact Or.inr rfl)) (pgs_cons (pg_name (i := 8) sc_read_part.nd rfl (by first | exact Or.inl rfl | exact Or.inr rfl)) pgs_nil)))))
  (pss_cons (ps_set (i := 4) sc_read_part.nd rfl (by first | exact Or.inl rfl | exact Or.inr rfl) (pe_op op_add (pv 4) (pv 7)))
  (pss_cons (ps_set (i := 5) sc_read_part.nd rfl (by first | exact Or.inl rfl | exact Or.inr rfl) (pe_can C_kept hr (by omega) rfl (pa_cons (pv 4) (pa_cons (pe_op op_catS (pv 5) (pv 8)) pa_nil))))
  (pss_one (ps_set (i := 3) sc_read_part.nd rfl (by first | exact Or.inl rfl | exact Or.inr rfl) (pe_can C_char_at hr (by omega) rfl (pa_cons (pv 0) (pa_cons (pv 1) pa_nil)))))))))
  (pss_cons (ps_if (pt_cmpR op_eq (pv 4) pe_int (nomark _)) (pss_one (ps_raise rfl (takes_of rfl rfl rfl rfl) (pmk_err E_BadText hr (by omega) rfl (pa_cons (pv 1) pa_nil)))) pss_nil)
  (pss_cons (ps_if (pt_cmpR op_ne (pv 3) (pe_strL [64] (by decide +kernel)) (nomark _)) (pss_one (ps_ret (pe_tup (pa_cons (pv 1) (pa_cons (pv 4) (pa_cons (pv 5) pa_nil)))))) pss_nil)
  (pss_cons (ps_asg (pe_canX C_read_whole hr (by omega) rfl (passes_call (takes_of rfl rfl rfl rfl) (fun _ _ _ _ h => h)) (pa_cons (pv 0) (pa_cons (pe_op op_add (pv 1) pe_int) (pa_cons (pv 4) pa_nil)))) (pg_tup rfl (pgs_cons (pg_name (i := 1) sc_read_part.nd rfl (by first | exact Or.inl rfl | exact Or.inr rfl)) (pgs_cons (pg_name (i := 6) sc_read_part.nd rfl (by first | exact Or.inl rfl | exact Or.inr rfl)) pgs_nil))))
  (pss_one (ps_ret (pe_tup (pa_cons (pv 1) (pa_cons (pv 6) (pa_cons (pe_op op_catS (pv 5) (pe_op op_repS (C8.pe_gc rfl c_DARK) (pe_op op_sub (pv 6) (pv 4)))) pa_nil)))))))))))), ?_⟩)
  · obtain ⟨_, _, rfl, _⟩ := h
    rfl
  · obtain ⟨l, i, rfl, hn, hl, hi, q⟩ := h
    walk_at "rd"
    refine ⟨small (by show 2 ≤ 1000000; decide), fun p0 hp0 => ?_⟩
    have ex0 := Evl.Ex.new (o := .tup [.int 0, .str (S [])]) hp0
    refine r_gtup2 (Evl.st_of upd_same) ?_
    generalize upd H p0 (.tup [.int 0, .str (S [])]) = H0 at ex0 ⊢
    walk_at "rd"
    refine ⟨l, i, rfl, by omega, ?_⟩
    walk_at "rd"
    replace q := q.ex ex0
    clear ex0 hp0
    generalize hit : rdItem (innerOf n) = item at q
    have oki : Ok item (fun s => goes s = true) := by rw [← hit]; exact ok_item (inner_ok n)
    refine r_cut (Mid := fun σ' H' => ∃ (j b : Nat) (r : List Nat) (o6 o7 o8 : Option V), σ' = [some (.str (S l)), some (.int (j : Int)), some (.int (6 - (n : Int))), some (.str (S ((l.drop j).take 1))), some (.int (b : Int)), some (.str (S r)), o6, o7, o8] ∧ Ex H0 H' ∧ j ≤ l.length ∧ Far (l.drop i) (l.drop j) b r ∧ rdItems item (l.drop i).length (l.drop i) 0 [] = .ok (l.drop j, b, r)) ?_ ?_
    · let WW : Nat → L2.St → Hp → Prop := fun m σ' H' => ∃ (j b f : Nat) (r : List Nat) (o6 o7 o8 : Option V), σ' = [some (.str (S l)), some (.int (j : Int)), some (.int (6 - (n : Int))), some (.str (S ((l.drop j).take 1))), some (.int (b : Int)), some (.str (S r)), o6, o7, o8] ∧ Ex H0 H' ∧ j ≤ l.length ∧ m + j = l.length ∧ l.length - j ≤ f ∧ Far (l.drop i) (l.drop j) b r ∧ rdItems item (l.drop i).length (l.drop i) 0 [] = rdItems item f (l.drop j) b r
      refine ⟨WW, ⟨l.length - i, i, 0, (l.drop i).length, [], _, _, _, rfl, Evl.Ex.refl _, hi, by omega, by rw [List.length_drop]; omega, far_start _, rfl⟩, fun m σ' H1 hW => ?_⟩
      obtain ⟨j, b, f', r, o6, o7, o8, rfl, ex1, hj, hm, hf, Fa, hT⟩ := hW
      have r24 : r.length ≤ 24 := row24 Fa.row Fa.non
      have jl : (l.drop j).length = l.length - j := List.length_drop
      have stop : goes (l.drop j) = false → ∃ (j2 b2 : Nat) (r2 : List Nat) (p6 p7 p8 : Option V), [some (.str (S l)), some (.int (j : Int)), some (.int (6 - (n : Int))), some (.str (S ((l.drop j).take 1))), some (.int (b : Int)), some (.str (S r)), o6, o7, o8] = [some (.str (S l)), some (.int (j2 : Int)), some (.int (6 - (n : Int))), some (.str (S ((l.drop j2).take 1))), some (.int (b2 : Int)), some (.str (S r2)), p6, p7, p8] ∧ Ex H0 H1 ∧ j2 ≤ l.length ∧ Far (l.drop i) (l.drop j2) b2 r2 ∧ rdItems item (l.drop i).length (l.drop i) 0 [] = .ok (l.drop j2, b2, r2) := fun hg =>
        ⟨j, b, r, _, _, _, rfl, ex1, hj, Fa, by rw [hT, items_stop hg]⟩
      walk_at "rd"
      cases hs : l.drop j with
      | nil =>
        rw [hs] at stop
        refine ⟨[], rfl, by decide, ?_⟩
        walk_at "rd"
        refine r_iteN (fun z => absurd rfl z) (fun _ => ?_)
        walk_at "rd"
        exact stop rfl
      | cons c rest =>
        have jp : 1 ≤ l.length - j := by
          have e := jl
          rw [hs, List.length_cons] at e
          omega
        refine ⟨[c], rfl, Nat.le_refl 1, ?_⟩
        walk_at "rd"
        refine r_iteB (fun hc => ?_) (fun hc => ?_)
        · have hg : goes (l.drop j) = true := by
            rw [hs]
            show (isSg c || isDig c) = true
            rw [show isSg c = true from hc]
            rfl
          walk_at "rd"
          obtain ⟨f2, rfl⟩ : ∃ x, f' = x + 1 := ⟨f' - 1, by omega⟩
          refine ⟨fun σ2 H2 => ∃ m', m' < m ∧ WW m' σ2 H2, fun σ2 H2 z => z, ?_⟩
          walk_at "rd"
          refine ⟨l, j, rfl, hn, hl, hj, hg, ?_⟩
          rw [hit]
          rw [items_go hg] at hT
          cases hx : item (l.drop j) with
          | error e =>
            rw [hx] at hT
            exact (q.ex ex1).bad (e := e) (by unfold rdPart; rw [hT]) rfl
          | ok g0 =>
            obtain ⟨s2, m2, g⟩ := g0
            rw [hx] at hT
            have G := oki _ _ hg hx
            obtain ⟨d1, d2, d3⟩ := suf_pos G hj
            obtain ⟨Fb, _⟩ := far_step Fa G
            have g24 : g.length ≤ 24 := row24 (fun z => G.row z) (fun z => G.non z)
            intro p H2 ex2 hp
            walk_at "rd"
            refine r_gtup3 rfl (Evl.st_of hp) ?_
            walk_at "rd"
            refine r_catS (small (by show r.length + g.length ≤ 1000000; omega)) ?_
            walk_at "rd"
            refine ⟨b + m2, r ++ g, by rw [Int.natCast_add]; rfl, ?_⟩
            walk_at "rd"
            refine ⟨l, l.length - s2.length, rfl, by omega, ?_⟩
            walk_at "rd"
            refine ⟨l.length - (l.length - s2.length), by omega, l.length - s2.length, b + m2, f2, kept (b + m2) (r ++ g), o6, some (.int (m2 : Int)), some (.str (S g)), ?_, ex1.trans ex2, d2, by omega, by omega, by rw [d1]; exact Fb, by rw [d1]; exact hT⟩
            rw [Int.natCast_add]
            rfl
        · walk_at "rd"
          refine r_iteN (fun _ => ?_) (fun z => absurd z (by simp))
          rw [take_one]
          walk_at "rd"
          rw [dgl]
          refine r_iteB (fun hd => ?_) (fun hd => ?_)
          · have hg : goes (l.drop j) = true := by
              rw [hs]
              show (isSg c || isDig c) = true
              rw [hd, Bool.or_true]
            walk_at "rd"
            obtain ⟨f2, rfl⟩ : ∃ x, f' = x + 1 := ⟨f' - 1, by omega⟩
            refine ⟨fun σ2 H2 => ∃ m', m' < m ∧ WW m' σ2 H2, fun σ2 H2 z => z, ?_⟩
            walk_at "rd"
            refine ⟨l, j, rfl, hn, hl, hj, hg, ?_⟩
            rw [hit]
            rw [items_go hg] at hT
            cases hx : item (l.drop j) with
            | error e =>
              rw [hx] at hT
              exact (q.ex ex1).bad (e := e) (by unfold rdPart; rw [hT]) rfl
            | ok g0 =>
              obtain ⟨s2, m2, g⟩ := g0
              rw [hx] at hT
              have G := oki _ _ hg hx
              obtain ⟨d1, d2, d3⟩ := suf_pos G hj
              obtain ⟨Fb, _⟩ := far_step Fa G
              have g24 : g.length ≤ 24 := row24 (fun z => G.row z) (fun z => G.non z)
              intro p H2 ex2 hp
              walk_at "rd"
              refine r_gtup3 rfl (Evl.st_of hp) ?_
              walk_at "rd"
              refine r_catS (small (by show r.length + g.length ≤ 1000000; omega)) ?_
              walk_at "rd"
              refine ⟨b + m2, r ++ g, by rw [Int.natCast_add]; rfl, ?_⟩
              walk_at "rd"
              refine ⟨l, l.length - s2.length, rfl, by omega, ?_⟩
              walk_at "rd"
              refine ⟨l.length - (l.length - s2.length), by omega, l.length - s2.length, b + m2, f2, kept (b + m2) (r ++ g), o6, some (.int (m2 : Int)), some (.str (S g)), ?_, ex1.trans ex2, d2, by omega, by omega, by rw [d1]; exact Fb, by rw [d1]; exact hT⟩
              rw [Int.natCast_add]
              rfl
          · walk_at "rd"
            rw [hs] at stop
            exact stop (by
              show (isSg c || isDig c) = false
              rw [show isSg c = false from hc, hd]
              rfl)
    · intro σ' H1 hM
      obtain ⟨j, b, r, o6, o7, o8, rfl, ex1, hj, Fa, hT⟩ := hM
      have jl : (l.drop j).length = l.length - j := List.length_drop
      have r24 : r.length ≤ 24 := row24 Fa.row Fa.non
      replace q := q.ex ex1
      walk_at "rd"
      refine r_ite (fun b0 => ?_) (fun b0 => ?_)
      · have b0' : b = 0 := by omega
        walk_at "rd"
        refine r_mk (q.bad (e := (l.drop j).length) ?_ (by rw [jl]; omega))
        unfold rdPart
        rw [hT]
        show (if b = 0 then _ else _) = _
        rw [if_pos b0']
      · have b0' : b ≠ 0 := fun z => b0 (by rw [z]; rfl)
        have hP : rdPart item (l.drop i) = match l.drop j with
          | [] => .ok (l.drop j, b, r)
          | c :: s3 => if c = 64 then rdWhole s3 b r else .ok (l.drop j, b, r) := by
          unfold rdPart
          rw [hT]
          show (if b = 0 then _ else _) = _
          rw [if_neg b0']
          all_goals (cases l.drop j <;> rfl)
        walk_at "rd"
        refine r_iteN (fun h64 => ?_) (fun h64 => ?_)
        · have ho : rdPart item (l.drop i) = .ok (l.drop j, b, r) := by
            rw [hP]
            cases hs : l.drop j with
            | nil => rfl
            | cons c s3 =>
              show (if c = 64 then _ else _) = _
              rw [if_neg (fun z => h64 (by rw [hs, z]; rfl))]
          walk_at "rd"
          refine ⟨small (by show 3 ≤ 1000000; decide), fun p hp => ?_⟩
          refine q.good ho (Evl.Ex.new hp) upd_same ?_ rfl rfl
          show (j : Int) = ((l.length - (l.drop j).length : Nat) : Int)
          rw [jl]
          omega
        · cases hs : l.drop j with
          | nil => rw [hs] at h64; cases h64
          | cons c s3 =>
            have c64 : c = 64 := by rw [hs] at h64; injection h64
            subst c64
            have e3 : l.drop (j + 1) = s3 := by
              have e : (l.drop j).drop 1 = (64 :: s3).drop 1 := by rw [hs]
              rw [List.drop_drop] at e
              exact e
            have l3 : s3.length + 1 = l.length - j := by rw [← jl, hs, List.length_cons]
            rw [hs] at hP
            have ho : rdPart item (l.drop i) = match whl s3 b with
              | none => .error s3.length
              | some w => .ok (rsOf s3, w, r ++ List.replicate (w - b) 46) := by
              rw [hP]
              refine (show _ = rdWhole s3 b r from rfl).trans ?_
              rw [rdWhole_eq]
              all_goals (cases whl s3 b <;> rfl)
            walk_at "rd"
            refine ⟨l, j + 1, b, by rw [Int.natCast_add]; rfl, by omega, fun hw => ?_, fun w p H2 hw ex2 hp => ?_⟩
            · rw [e3] at hw
              rw [hw] at ho
              exact q.bad ho (by omega)
            · rw [e3] at hw hp
              rw [hw] at ho
              obtain ⟨w1, w2⟩ := whl_le hw
              have lr := len_rs s3
              walk_at "rd"
              refine r_gtup2 (Evl.st_of hp) ?_
              walk_at "rd"
              refine r_repS (by omega) (by omega) (small (by show 1 * _ ≤ 1000000; omega)) ?_
              rw [show ((w : Int) - (b : Int)).toNat = w - b by omega, flat_one]
              refine r_catS (small (by rw [List.length_replicate]; omega)) ?_
              walk_at "rd"
              refine ⟨small (by show 3 ≤ 1000000; decide), fun p2 hp2 => ?_⟩
              refine q.good ho (ex2.trans (Evl.Ex.new hp2)) upd_same ?_ rfl rfl
              show ((j + 1 + (dsOf s3).length : Nat) : Int) = ((l.length - (rsOf s3).length : Nat) : Int)
              omega
end
end Fk

set_option Elab.async false
set_option linter.all false
set_option maxRecDepth 100000
set_option maxHeartbeats 4000000
namespace Fk
open PySem PySem.Spec PyProof.Rows L2 Fg Rt
local macro_rules | `(tactic| walk_at "rd1") => `(tactic| first
  | with_reducible refine r_seq ?_
  | with_reducible refine r_asg ?_
  | with_reducible refine r_gname ?_
  | with_reducible refine r_gsub ?_
  | with_reducible refine r_ret ?_
  | with_reducible refine r_retN ?_
  | with_reducible refine r_next ?_
  | with_reducible refine r_drop ?_
  | with_reducible refine r_ifS ?_
  | with_reducible refine r_if ?_
  | with_reducible refine r_par ?_
  | with_reducible refine r_pair ?_
  | with_reducible refine r_test ?_
  | with_reducible refine r_tB ?_
  | with_reducible refine r_not ?_
  | with_reducible refine r_and ?_
  | with_reducible refine r_or ?_
  | with_reducible refine r_andV ?_
  | with_reducible refine r_orV ?_
  | with_reducible refine r_notV ?_
  | with_reducible refine r_nil ?_
  | with_reducible refine r_cons ?_
  | with_reducible refine r_call ?_
  | with_reducible refine r_callS ?_
  | with_reducible refine r_cb ?_
  | with_reducible refine r_then ?_
  | with_reducible refine r_tup ?_
  | with_reducible refine r_lst ?_
  | with_reducible refine r_sl ?_
  | with_reducible refine r_nopart ?_
  | with_reducible refine r_part ?_
  | with_reducible refine r_lcR1 ?_
  | with_reducible refine r_lcR2 ?_
  | with_reducible refine r_lcL ?_
  | with_reducible refine r_lcT ?_
  | with_reducible refine r_forR1 ?_
  | with_reducible refine r_forR2 ?_
  | with_reducible refine r_forL ?_
  | with_reducible refine r_forT ?_
  | with_reducible refine r_forE ?_
  | with_reducible refine r_strE ?_
  | ((with_reducible refine r_rng1 ?hc ?_); (case hc => omega))
  | ((with_reducible refine r_rng2 ?hc ?_); (case hc => omega))
  | ((with_reducible refine' r_refL ?hc ?_); (case hc => first | assumption | exact Evl.sq_of (by assumption)))
  | ((with_reducible refine' r_refT ?hc ?_); (case hc => first | assumption | exact Evl.st_of (by assumption)))
  | with_reducible refine r_op ?_
  | with_reducible refine r_un ?_
  | with_reducible refine r_chain ?_
  | ((with_reducible refine' r_var ?hv ?_); (case hv => exact rfl))
  | with_reducible refine r_cS ?_
  | with_reducible refine r_cs ?_
  | with_reducible refine r_c ?_
  | with_reducible refine r_yes ?_
  | with_reducible refine r_bm ?_
  | with_reducible refine r_bl ?_
  | with_reducible refine r_in ?_
  | with_reducible refine r_ty ?_
  | with_reducible refine r_I0 ?_
  | ((with_reducible refine r_I ?hc ?_); (case hc => first | assumption | (show (0 : Int) < _; decide) | exact Or.inr ⟨by decide, by decide⟩ | exact Or.inr ⟨by omega, by omega⟩ | exact Or.inl ⟨by decide, by decide⟩ | exact (show CDivW _ _ from ⟨by decide, by decide +kernel⟩) | exact (show CPowW _ _ from ⟨by decide, by decide +kernel⟩) | (show (0 : Int) < _; omega)))
  | with_reducible refine r_U ?_
  | with_reducible refine r_eqI ?_
  | with_reducible refine r_neI ?_
  | with_reducible refine r_eqS ?_
  | with_reducible refine r_neS ?_
  | with_reducible refine r_eqB ?_
  | with_reducible refine r_neB ?_
  | with_reducible refine r_niS ?_
  | with_reducible refine r_inSS ?_
  | ((with_reducible refine r_slSS ?hc ?_); (case hc => first | exact small (by omega) | exact small (by simp; omega)))
  | ((with_reducible refine r_lenS ?hc ?_); (case hc => first | exact small (by omega) | exact small (by simp; omega)))
  | ((with_reducible refine' r_lenL ?hc ?_); (case hc => first | assumption | exact Evl.sq_of (by assumption)))
  | ((with_reducible refine' r_lenT ?hc ?_); (case hc => first | assumption | exact Evl.st_of (by assumption)))
  | ((with_reducible refine' r_ixL ?h1 ?h2 ?h3 ?_); (case h1 => first | assumption | exact Evl.sq_of (by assumption) | exact Evl.sq_of upd_same); (case h2 => first | decide | omega); (case h3 => first | exact rfl | assumption))
  | ((with_reducible refine' r_ixT ?h1 ?h2 ?h3 ?_); (case h1 => first | assumption | exact Evl.st_of (by assumption)); (case h2 => first | decide | omega); (case h3 => first | exact rfl | assumption))
  | with_reducible refine r_T ?_
  | with_reducible refine r_notNn ?_
  | with_reducible refine r_notN_int ?_
  | with_reducible refine r_notN_str ?_
  | with_reducible refine r_notN_ref ?_
  | with_reducible refine r_isNn ?_
  | with_reducible refine r_isN_int ?_
  | with_reducible refine r_isN_str ?_
  | with_reducible refine r_isN_ref ?_
  | ((with_reducible refine' r_isi ?ht ?hk ?_); (case ht => first | exact .base (.int _) | exact .base (.bl _) | exact .base (.str _) | exact .base .non | exact .base (.lst (by assumption)) | exact .base (.tup (by assumption))); (case hk => first | exact kb_int_int | exact kb_int_bool | exact kb_int_str | exact kb_int_list | exact kb_int_tuple | exact kb_bool_int | exact kb_bool_bool | exact kb_bool_str | exact kb_bool_list | exact kb_bool_tuple | exact kb_str_int | exact kb_str_bool | exact kb_str_str | exact kb_str_list | exact kb_str_tuple | exact kb_NoneType_int | exact kb_NoneType_bool | exact kb_NoneType_str | exact kb_NoneType_list | exact kb_NoneType_tuple | exact kb_list_int | exact kb_list_bool | exact kb_list_str | exact kb_list_list | exact kb_list_tuple | exact kb_tuple_int | exact kb_tuple_bool | exact kb_tuple_str | exact kb_tuple_list | exact kb_tuple_tuple))
  | with_reducible refine r_F ?_
  | with_reducible refine r_nT ?_
  | with_reducible refine r_nF ?_
  | with_reducible refine r_mko ?_
  | with_reducible refine r_xf ?_
  | ((with_reducible refine' r_sum ?hc ?_); (case hc => first | assumption | exact Evl.sq_of (by assumption)))
  | ((with_reducible refine' r_setL ?h1 ?h2 ?h3 ?_); (case h1 => first | assumption | exact upd_same); (case h2 => first | decide | omega); (case h3 => first | (show _ < _; decide) | (simp; done)))
  | with_reducible refine r_int ?_
  | with_reducible refine r_abs ?_)
local macro_rules | `(tactic| walk_at "rd") => `(tactic| repeat (walk_at "rd1"))

section
variable {P : Program} {w : World} {K : PySem.W.Frag} {mg : Str → Option Value} {base : Heap}
theorem ok_rdPart (n : Nat) : Ok (rdPart (rdItem (innerOf n))) (fun _ => True) := ok_part (ok_item (inner_ok n))
theorem fine_row {s : List Nat} {g : Got} (F : Fine s g) (h : s.length ≤ 2000) : RowOk g.2.1 g.2.2 := by
  obtain ⟨k, k1, k2, k3, k4⟩ := F.suf
  exact ⟨F.pos, big_lt (by omega) k4, F.row, F.non⟩
theorem join_stop {part : List Nat → Res} {s : List Nat} (h : s.take 1 ≠ [38]) : ∀ (f b : Nat) (r : List Nat), rdJoin part f s b r = .ok (s, b, r)
  | 0, b, r => rfl
  | f + 1, b, r => by
    unfold rdJoin
    cases s with
    | nil => rfl
    | cons c s2 =>
      show (if c = 38 then _ else _) = _
      rw [if_neg (fun z => h (by rw [z]; rfl))]
theorem join_go {part : List Nat → Res} {s2 : List Nat} {f b : Nat} {r : List Nat} : rdJoin part (f + 1) (38 :: s2) b r = match part s2 with
  | .error e => .error e
  | .ok (s3, b2, r2) => rdJoin part f s3 (Nat.lcm b b2) (tog b r b2 r2) := by
  have h : ∀ c : Nat, c = 38 → rdJoin part (f + 1) (c :: s2) b r = match part s2 with
      | .error e => .error e
      | .ok (s3, b2, r2) => rdJoin part f s3 (Nat.lcm b b2) (tog b r b2 r2) := by
    intro c hc
    show (if c = 38 then _ else _) = _
    rw [if_pos hc]
    all_goals (cases part s2 <;> rfl)
  exact h 38 rfl
theorem parts_eq {part : List Nat → Res} {top : Bool} {s : List Nat} {g1 g : Got} (h1 : part s = .ok g1) (h2 : rdJoin part g1.1.length g1.1 g1.2.1 g1.2.2 = .ok g) : rdParts part top s = if g.1.take 1 = endOf top then .ok g else .error g.1.length := by
  unfold rdParts
  rw [h1]
  obtain ⟨s1, b1, r1⟩ := g1
  show (match rdJoin part s1.length s1 b1 r1 with
    | .error e => Except.error e
    | .ok (s3, b3, r3) => if s3.take 1 = endOf top then .ok (s3, b3, r3) else .error s3.length) = _
  rw [show rdJoin part s1.length s1 b1 r1 = .ok g from h2]
theorem parts_bad1 {part : List Nat → Res} {top : Bool} {s : List Nat} {e : Nat} (h1 : part s = .error e) : rdParts part top s = .error e := by
  unfold rdParts
  rw [h1]
theorem parts_bad2 {part : List Nat → Res} {top : Bool} {s : List Nat} {g1 : Got} {e : Nat} (h1 : part s = .ok g1) (h2 : rdJoin part g1.1.length g1.1 g1.2.1 g1.2.2 = .error e) : rdParts part top s = .error e := by
  unfold rdParts
  rw [h1]
  obtain ⟨s1, b1, r1⟩ := g1
  show (match rdJoin part s1.length s1 b1 r1 with
    | .error e => Except.error e
    | .ok (s3, b3, r3) => if s3.take 1 = endOf top then .ok (s3, b3, r3) else .error s3.length) = _
  rw [show rdJoin part s1.length s1 b1 r1 = .error e from h2]
abbrev s_read_parts : Stmt := topS 27
abbrev N_read_parts : List Str := ["text", "at", "deep", "last", "beats", "row", "other_beats", "other"]
theorem sc_read_parts : FnScope ["text", "at", "deep", "last", "beats", "row", "other_beats", "other"] ["text", "at", "deep"] (defScope s_read_parts) := ⟨rfl, rfl, rfl, by decide +kernel, rfl, by decide +kernel, by decide +kernel⟩
theorem can_read_parts (T : Bi mg) (F : Defd K mg "read_parts" s_read_parts ["text", "at", "deep"]) {n k : Nat} (hk : 3 ≤ k) (hn : n ≤ 6) {A_BadText : Addr} (E_BadText : Err P w K mg base "BadText" A_BadText "at") (C_char_at : Can P w K mg base L2.CX0 1 "char_at" ["text", "at"] spChar) (C_together : Can P w K mg base L2.CX0 1 "together" ["beats", "row", "other_beats", "other"] spTogether) (C_read_part : Can P w K mg base (L2.CX P w) (k + 2) "read_part" ["text", "at", "deep"] (spPart A_BadText n)) : Can P w K mg base (L2.CX P w) (k + 3) "read_parts" ["text", "at", "deep"] (spParts A_BadText n) := by
  refine canX F sc_read_parts (fun vs H Q E h => ?_) (fun f cdv A outer s H vs Q E hr h => ⟨_, (pss_cons (ps_asg (pe_canX C_read_part hr (by omega) rfl (passes_call (takes_of rfl rfl rfl rfl) (fun _ _ _ _ h => h)) (pa_cons (pv 0) (pa_cons (pv 1) (pa_cons (pv 2) pa_nil)))) (pg_tup rfl (pgs_cons (pg_name (i := 1) sc_read_parts.nd rfl (by first | exact Or.inl rfl | exact Or.inr rfl)) (pgs_cons (pg_name (i := 4) sc_read_parts.nd rfl (by first | exact Or.inl rfl | exact Or.inr rfl)) (pgs_cons (pg_name (i := 5) sc_read_parts.nd rfl (by first | exact Or.inl rfl | exact Or.inr rfl)) pgs_nil)))))
  (Evl.pss_cut (ps_while PassesOwn.leaving (pt_cmpR op_eq (pe_can C_char_at hr (by omega) rfl (pa_cons (pv 0) (pa_cons (pv 1) pa_nil))) (pe_strL [38] (by decide +kernel)) (nomark _)) (pss_cons (ps_asg (pe_canX C_read_part hr (by omega) rfl (passes_call (takes_of rfl rfl rfl rfl) (fun _ _ _ _ h => h)) (pa_cons (pv 0) (pa_cons (pe_op op_add (pv 1) pe_int) (pa_cons (pv 2) pa_nil)))) (pg_tup rfl (pgs_cons (pg_name (i := 1) sc_read_parts.nd rfl (by first | exact Or.inl rfl | exact Or.inr rfl)) (pgs_cons (pg_name (i := 6) sc_read_parts.nd rfl (by first | exact Or.inl rfl | exact Or.inr rfl)) (pgs_cons (pg_name (i := 7) sc_read_parts.nd rfl (by first | exact Or.inl rfl | exact Or.inr rfl)) pgs_nil)))))
  (pss_one (ps_asg (pe_can C_together hr (by omega) rfl (pa_cons (pv 4) (pa_cons (pv 5) (pa_cons (pv 6) (pa_cons (pv 7) pa_nil))))) (pg_tup rfl (pgs_cons (pg_name (i := 4) sc_read_parts.nd rfl (by first | exact Or.inl rfl | exact Or.inr rfl)) (pgs_cons (pg_name (i := 5) sc_read_parts.nd rfl (by first | exact Or.inl rfl | exact Or.inr rfl)) pgs_nil)))))))
  (pss_cons (ps_set (i := 3) sc_read_parts.nd rfl (by first | exact Or.inl rfl | exact Or.inr rfl) (pe_ifExp (pt_cmpR op_eq (pv 2) pe_int (nomark _)) (pe_strL [] (by decide +kernel)) (pe_strL [41] (by decide +kernel))))
  (pss_cons (ps_if (pt_cmpR op_ne (pe_can C_char_at hr (by omega) rfl (pa_cons (pv 0) (pa_cons (pv 1) pa_nil))) (pv 3) (nomark _)) (pss_one (ps_raise rfl (takes_of rfl rfl rfl rfl) (pmk_err E_BadText hr (by omega) rfl (pa_cons (pv 1) pa_nil)))) pss_nil)
  (pss_one (ps_ret (pe_tup (pa_cons (pv 1) (pa_cons (pv 4) (pa_cons (pv 5) pa_nil)))))))))), ?_⟩)
  · obtain ⟨_, _, rfl, _⟩ := h
    rfl
  · obtain ⟨l, i, rfl, hl, hi, q⟩ := h
    rw [rdAt_eq] at q
    have okp := ok_rdPart n
    walk_at "rd"
    refine ⟨l, i, rfl, hn, hl, hi, ?_⟩
    generalize hpart : rdPart (rdItem (innerOf n)) = part at q okp ⊢
    generalize ht : decide (n = 6) = top at q
    cases hx : part (l.drop i) with
    | error e => exact q.bad (parts_bad1 hx) rfl
    | ok g0 =>
      obtain ⟨s1, b1, r1⟩ := g0
      have F1 := okp _ _ trivial hx
      obtain ⟨d1, d2, d3⟩ := suf_pos F1 hi
      have jl0 : (l.drop i).length ≤ 2000 := by rw [List.length_drop]; omega
      intro p0 H0 ex0 hp0
      replace q := q.ex ex0
      walk_at "rd"
      refine r_gtup3 rfl (Evl.st_of hp0) ?_
      walk_at "rd"
      refine r_cut (Mid := fun σ' H' => ∃ (j b : Nat) (r : List Nat) (o3 o6 o7 : Option V), σ' = [some (.str (S l)), some (.int (j : Int)), some (.int (6 - (n : Int))), o3, some (.int (b : Int)), some (.str (S r)), o6, o7] ∧ Ex H0 H' ∧ j ≤ l.length ∧ Fine (l.drop i) (l.drop j, b, r) ∧ rdJoin part s1.length s1 b1 r1 = .ok (l.drop j, b, r)) ?_ ?_
      · let WW : Nat → L2.St → Hp → Prop := fun m σ' H' => ∃ (j b f : Nat) (r : List Nat) (o3 o6 o7 : Option V), σ' = [some (.str (S l)), some (.int (j : Int)), some (.int (6 - (n : Int))), o3, some (.int (b : Int)), some (.str (S r)), o6, o7] ∧ Ex H0 H' ∧ j ≤ l.length ∧ m + j = l.length ∧ l.length - j ≤ f ∧ Fine (l.drop i) (l.drop j, b, r) ∧ rdJoin part s1.length s1 b1 r1 = rdJoin part f (l.drop j) b r
        refine ⟨WW, ⟨l.length - (l.length - s1.length), l.length - s1.length, b1, s1.length, r1, none, none, none, rfl, Evl.Ex.refl _, d2, by omega, by omega, by rw [d1]; exact F1, by rw [d1]⟩, fun m σ' H1 hW => ?_⟩
        obtain ⟨j, b, f', r, o3, o6, o7, rfl, ex1, hj, hm, hf, Fa, hT⟩ := hW
        walk_at "rd"
        refine ⟨l, j, rfl, by omega, ?_⟩
        walk_at "rd"
        have jl : (l.drop j).length = l.length - j := List.length_drop
        refine r_ite (fun h38 => ?_) (fun h38 => ?_)
        · cases hs : l.drop j with
          | nil => rw [hs] at h38; cases h38
          | cons c s2 =>
            have c38 : c = 38 := by rw [hs] at h38; injection h38
            subst c38
            have e2 : l.drop (j + 1) = s2 := by
              have e : (l.drop j).drop 1 = (38 :: s2).drop 1 := by rw [hs]
              rw [List.drop_drop] at e
              exact e
            rw [hs, List.length_cons] at jl
            rw [hs] at hT Fa
            obtain ⟨f2, rfl⟩ : ∃ x, f' = x + 1 := ⟨f' - 1, by omega⟩
            rw [join_go] at hT
            refine ⟨fun σ2 H2 => ∃ m', m' < m ∧ WW m' σ2 H2, fun σ2 H2 z => z, ?_⟩
            walk_at "rd"
            refine ⟨l, j + 1, by rw [Int.natCast_add]; rfl, hn, hl, by omega, ?_⟩
            rw [hpart, e2]
            cases hy : part s2 with
            | error e =>
              rw [hy] at hT
              exact (q.ex ex1).bad (parts_bad2 (g1 := (s1, b1, r1)) hx hT) rfl
            | ok g2 =>
              obtain ⟨s3, b2, r2⟩ := g2
              rw [hy] at hT
              have G := okp _ _ trivial hy
              have Fj := fine_join Fa G
              have G' : Fine (l.drop (j + 1)) (s3, b2, r2) := by rw [e2]; exact G
              obtain ⟨e4, e5, e6⟩ := suf_pos G' (by omega)
              have ra := fine_row Fa jl0
              have rb := fine_row G (by omega)
              intro p1 H2 ex2 hp1
              walk_at "rd"
              refine r_gtup3 rfl (Evl.st_of hp1) ?_
              walk_at "rd"
              refine ⟨b, r, b2, r2, rfl, ra, rb, fun p2 H3 ex3 hp2 => ?_⟩
              walk_at "rd"
              refine r_gtup2 (Evl.st_of hp2) ?_
              walk_at "rd"
              exact ⟨l.length - (l.length - s3.length), by omega, l.length - s3.length, Nat.lcm b b2, f2, tog b r b2 r2, o3, some (.int (b2 : Int)), some (.str (S r2)), rfl, (ex1.trans ex2).trans ex3, e5, by omega, by omega, by rw [e4]; exact Fj, by rw [e4]; exact hT⟩
        · exact ⟨j, b, r, o3, o6, o7, rfl, ex1, hj, Fa, by rw [hT, join_stop h38]⟩
      · intro σ' H1 hM
        obtain ⟨j, b, r, o3, o6, o7, rfl, ex1, hj, Fa, hT⟩ := hM
        have ho := parts_eq (top := top) (g1 := (s1, b1, r1)) hx hT
        replace q := q.ex ex1
        have jl : (l.drop j).length = l.length - j := List.length_drop
        walk_at "rd"
        refine r_ite (fun h6 => ?_) (fun h6 => ?_)
        · have et : top = true := by rw [← ht]; exact decide_eq_true (by omega)
          rw [et] at ho q
          walk_at "rd"
          refine ⟨l, j, rfl, by omega, ?_⟩
          walk_at "rd"
          refine r_iteN (fun hE => ?_) (fun hE => ?_)
          · walk_at "rd"
            refine r_mk (q.bad (ho.trans (if_neg ?_)) ?_)
            · exact hE
            · show (j : Int) = ((l.length - (l.drop j).length : Nat) : Int)
              rw [jl]
              omega
          · walk_at "rd"
            refine ⟨small (by show 3 ≤ 1000000; decide), fun p hp => ?_⟩
            refine q.good (ho.trans (if_pos hE)) (Evl.Ex.new hp) upd_same ?_ rfl rfl
            show (j : Int) = ((l.length - (l.drop j).length : Nat) : Int)
            rw [jl]
            omega
        · have et : top = false := by rw [← ht]; exact decide_eq_false (by omega)
          rw [et] at ho q
          walk_at "rd"
          refine ⟨l, j, rfl, by omega, ?_⟩
          walk_at "rd"
          refine r_iteN (fun hE => ?_) (fun hE => ?_)
          · walk_at "rd"
            refine r_mk (q.bad (ho.trans (if_neg ?_)) ?_)
            · exact hE
            · show (j : Int) = ((l.length - (l.drop j).length : Nat) : Int)
              rw [jl]
              omega
          · walk_at "rd"
            refine ⟨small (by show 3 ≤ 1000000; decide), fun p hp => ?_⟩
            refine q.good (ho.trans (if_pos hE)) (Evl.Ex.new hp) upd_same ?_ rfl rfl
            show (j : Int) = ((l.length - (l.drop j).length : Nat) : Int)
            rw [jl]
            omega

theorem can_below {k n : Nat} {A_BadText : Addr} (F : Defd K mg "read_parts" s_read_parts ["text", "at", "deep"]) (hn : n = 0) : Can P w K mg base (L2.CX P w) (k + 1) "read_parts" ["text", "at", "deep"] (spBelow A_BadText n) := by
  subst hn
  exact canX F sc_read_parts (fun vs H Q E h => h.elim) (fun f cdv A outer s H vs Q E hr h => h.elim)
theorem can_reader (T : Bi mg) (F1 : Defd K mg "read_item" s_read_item ["text", "at", "deep"]) (F2 : Defd K mg "read_part" s_read_part ["text", "at", "deep"]) (F3 : Defd K mg "read_parts" s_read_parts ["text", "at", "deep"]) {A_BadText : Addr} (E_BadText : Err P w K mg base "BadText" A_BadText "at") (c_LEAST_TIMES : ∃ u, mg "LEAST_TIMES" = some u ∧ RelV (.int 2) u) (c_MOST_TIMES : ∃ u, mg "MOST_TIMES" = some u ∧ RelV (.int 24) u) (c_MOST_DEEP : ∃ u, mg "MOST_DEEP" = some u ∧ RelV (.int 6) u) (c_MOST_BEATS : ∃ u, mg "MOST_BEATS" = some u ∧ RelV (.int 24) u) (c_DIGITS : ∃ u, mg "DIGITS" = some u ∧ RelV (.str (S DGL)) u) (c_DARK : ∃ u, mg "DARK" = some u ∧ RelV (.str (S [46])) u) (C_end_of_run : Can P w K mg base L2.CX0 1 "end_of_run" ["text", "at"] spEnd) (C_size_of_run : Can P w K mg base (L2.CX P w) 3 "size_of_run" ["text", "at", "end"] (spSize A_BadText)) (C_char_at : Can P w K mg base L2.CX0 1 "char_at" ["text", "at"] spChar) (C_is_sign : Can P w K mg base L2.CX0 1 "is_sign" ["thing"] spIsSign) (C_kept : Can P w K mg base L2.CX0 1 "kept" ["beats", "row"] spKept) (C_together : Can P w K mg base L2.CX0 1 "together" ["beats", "row", "other_beats", "other"] spTogether) (C_read_whole : Can P w K mg base (L2.CX P w) 4 "read_whole" ["text", "at", "beats"] (spWhole A_BadText)) :
    ∀ n : Nat, n ≤ 6 → Can P w K mg base (L2.CX P w) (6 + 3 * n) "read_parts" ["text", "at", "deep"] (spParts A_BadText n) := by
  have step : ∀ (n k : Nat), 3 ≤ k → n ≤ 6 → Can P w K mg base (L2.CX P w) k "read_parts" ["text", "at", "deep"] (spBelow A_BadText n) → Can P w K mg base (L2.CX P w) (k + 3) "read_parts" ["text", "at", "deep"] (spParts A_BadText n) := by
    intro n k hk hn C_read_parts
    have C_read_item : Can P w K mg base (L2.CX P w) (k + 1) "read_item" ["text", "at", "deep"] (spItem A_BadText n) := by
      apply can_read_item T F1 <;> assumption
    have C_read_part : Can P w K mg base (L2.CX P w) (k + 2) "read_part" ["text", "at", "deep"] (spPart A_BadText n) := by
      apply can_read_part T F2 <;> assumption
    apply can_read_parts T F3 <;> assumption
  intro n
  induction n with
  | zero => intro h; exact step 0 3 (by decide) h (can_below F3 rfl)
  | succ n ih =>
    intro h
    have e : 6 + 3 * (n + 1) = 6 + 3 * n + 3 := by omega
    rw [e]
    exact step (n + 1) (6 + 3 * n) (by omega) h (ih (by omega))
end
end Fk

set_option Elab.async false
set_option linter.all false
set_option maxRecDepth 100000
set_option maxHeartbeats 4000000
namespace Fk
open PySem PySem.Spec PyProof.Rows L2 Fg Rt
local macro_rules | `(tactic| walk_at "rd1") => `(tactic| first
  | with_reducible refine r_seq ?_
  | with_reducible refine r_asg ?_
  | with_reducible refine r_gname ?_
  | with_reducible refine r_gsub ?_
  | with_reducible refine r_ret ?_
  | with_reducible refine r_retN ?_
  | with_reducible refine r_next ?_
  | with_reducible refine r_drop ?_
  | with_reducible refine r_ifS ?_
  | with_reducible refine r_if ?_
  | with_reducible refine r_par ?_
  | with_reducible refine r_pair ?_
  | with_reducible refine r_test ?_
  | with_reducible refine r_tB ?_
  | with_reducible refine r_not ?_
  | with_reducible refine r_and ?_
  | with_reducible refine r_or ?_
  | with_reducible refine r_andV ?_
  | with_reducible refine r_orV ?_
  | with_reducible refine r_notV ?_
  | with_reducible refine r_nil ?_
  | with_reducible refine r_cons ?_
  | with_reducible refine r_call ?_
  | with_reducible refine r_callS ?_
  | with_reducible refine r_cb ?_
  | with_reducible refine r_then ?_
  | with_reducible refine r_tup ?_
  | with_reducible refine r_lst ?_
  | with_reducible refine r_sl ?_
  | with_reducible refine r_nopart ?_
  | with_reducible refine r_part ?_
  | with_reducible refine r_lcR1 ?_
  | with_reducible refine r_lcR2 ?_
  | with_reducible refine r_lcL ?_
  | with_reducible refine r_lcT ?_
  | with_reducible refine r_forR1 ?_
  | with_reducible refine r_forR2 ?_
  | with_reducible refine r_forL ?_
  | with_reducible refine r_forT ?_
  | with_reducible refine r_forE ?_
  | with_reducible refine r_strE ?_
  | ((with_reducible refine r_rng1 ?hc ?_); (case hc => omega))
  | ((with_reducible refine r_rng2 ?hc ?_); (case hc => omega))
  | ((with_reducible refine' r_refL ?hc ?_); (case hc => first | assumption | exact Evl.sq_of (by assumption)))
  | ((with_reducible refine' r_refT ?hc ?_); (case hc => first | assumption | exact Evl.st_of (by assumption)))
  | with_reducible refine r_op ?_
  | with_reducible refine r_un ?_
  | with_reducible refine r_chain ?_
  | ((with_reducible refine' r_var ?hv ?_); (case hv => exact rfl))
  | with_reducible refine r_cS ?_
  | with_reducible refine r_cs ?_
  | with_reducible refine r_c ?_
  | with_reducible refine r_yes ?_
  | with_reducible refine r_bm ?_
  | with_reducible refine r_bl ?_
  | with_reducible refine r_in ?_
  | with_reducible refine r_ty ?_
  | with_reducible refine r_I0 ?_
  | ((with_reducible refine r_I ?hc ?_); (case hc => first | assumption | (show (0 : Int) < _; decide) | exact Or.inr ⟨by decide, by decide⟩ | exact Or.inr ⟨by omega, by omega⟩ | exact Or.inl ⟨by decide, by decide⟩ | exact (show CDivW _ _ from ⟨by decide, by decide +kernel⟩) | exact (show CPowW _ _ from ⟨by decide, by decide +kernel⟩) | (show (0 : Int) < _; omega)))
  | with_reducible refine r_U ?_
  | with_reducible refine r_eqI ?_
  | with_reducible refine r_neI ?_
  | with_reducible refine r_eqS ?_
  | with_reducible refine r_neS ?_
  | with_reducible refine r_eqB ?_
  | with_reducible refine r_neB ?_
  | with_reducible refine r_niS ?_
  | with_reducible refine r_inSS ?_
  | ((with_reducible refine r_slSS ?hc ?_); (case hc => first | exact small (by omega) | exact small (by simp; omega)))
  | ((with_reducible refine r_lenS ?hc ?_); (case hc => first | exact small (by omega) | exact small (by simp; omega)))
  | ((with_reducible refine' r_lenL ?hc ?_); (case hc => first | assumption | exact Evl.sq_of (by assumption)))
  | ((with_reducible refine' r_lenT ?hc ?_); (case hc => first | assumption | exact Evl.st_of (by assumption)))
  | ((with_reducible refine' r_ixL ?h1 ?h2 ?h3 ?_); (case h1 => first | assumption | exact Evl.sq_of (by assumption) | exact Evl.sq_of upd_same); (case h2 => first | decide | omega); (case h3 => first | exact rfl | assumption))
  | ((with_reducible refine' r_ixT ?h1 ?h2 ?h3 ?_); (case h1 => first | assumption | exact Evl.st_of (by assumption)); (case h2 => first | decide | omega); (case h3 => first | exact rfl | assumption))
  | with_reducible refine r_T ?_
  | with_reducible refine r_notNn ?_
  | with_reducible refine r_notN_int ?_
  | with_reducible refine r_notN_str ?_
  | with_reducible refine r_notN_ref ?_
  | with_reducible refine r_isNn ?_
  | with_reducible refine r_isN_int ?_
  | with_reducible refine r_isN_str ?_
  | with_reducible refine r_isN_ref ?_
  | ((with_reducible refine' r_isi ?ht ?hk ?_); (case ht => first | exact .base (.int _) | exact .base (.bl _) | exact .base (.str _) | exact .base .non | exact .base (.lst (by assumption)) | exact .base (.tup (by assumption))); (case hk => first | exact kb_int_int | exact kb_int_bool | exact kb_int_str | exact kb_int_list | exact kb_int_tuple | exact kb_bool_int | exact kb_bool_bool | exact kb_bool_str | exact kb_bool_list | exact kb_bool_tuple | exact kb_str_int | exact kb_str_bool | exact kb_str_str | exact kb_str_list | exact kb_str_tuple | exact kb_NoneType_int | exact kb_NoneType_bool | exact kb_NoneType_str | exact kb_NoneType_list | exact kb_NoneType_tuple | exact kb_list_int | exact kb_list_bool | exact kb_list_str | exact kb_list_list | exact kb_list_tuple | exact kb_tuple_int | exact kb_tuple_bool | exact kb_tuple_str | exact kb_tuple_list | exact kb_tuple_tuple))
  | with_reducible refine r_F ?_
  | with_reducible refine r_nT ?_
  | with_reducible refine r_nF ?_
  | with_reducible refine r_mko ?_
  | with_reducible refine r_xf ?_
  | ((with_reducible refine' r_sum ?hc ?_); (case hc => first | assumption | exact Evl.sq_of (by assumption)))
  | ((with_reducible refine' r_setL ?h1 ?h2 ?h3 ?_); (case h1 => first | assumption | exact upd_same); (case h2 => first | decide | omega); (case h3 => first | (show _ < _; decide) | (simp; done)))
  | with_reducible refine r_int ?_
  | with_reducible refine r_abs ?_)
local macro_rules | `(tactic| walk_at "rd") => `(tactic| repeat (walk_at "rd1"))

section
variable {P : Program} {w : World} {K : PySem.W.Frag} {mg : Str → Option Value} {base : Heap}
/-- what read_round tells -/
def OutRound (C CT : Addr) (l : List Nat) (H : Hp) (Q : VK) (E : XK) : Prop := match rdAt 6 true l with
  | .error e => Wish C "at" (.int ((l.length - e : Nat) : Int)) H E
  | .ok g => (g.2.1 ≤ 24 → ∀ H', Ex H H' → Q (.str (S g.2.2)) H') ∧ (24 < g.2.1 → Wish CT "number" (.int (g.2.1 : Int)) H E)
def spReadRound (K : PySem.W.Frag) (C CT : Addr) : Sp := fun vs H Q E => ∃ x, vs = [x] ∧ ((∃ m, TyX K H x (.type m) ∧ kitB m "str" = some false ∧ Wish C "at" (.int (-1)) H E) ∨ ∃ l, x = .str (S l) ∧ l.length ≤ 2000 ∧ OutRound C CT l H Q E)
abbrev s_read_round : Stmt := topS 21
abbrev N_read_round : List Str := ["text", "_", "beats", "row"]
theorem sc_read_round : FnScope ["text", "_", "beats", "row"] ["text"] (defScope s_read_round) := ⟨rfl, rfl, rfl, by decide +kernel, rfl, by decide +kernel, by decide +kernel⟩
theorem can_read_round (T : Bi mg) (F : Defd K mg "read_round" s_read_round ["text"]) (c_MOST_BEATS : ∃ u, mg "MOST_BEATS" = some u ∧ RelV (.int 24) u) {A_BadText : Addr} (E_BadText : Err P w K mg base "BadText" A_BadText "at") {A_TooLong : Addr} (E_TooLong : Err P w K mg base "TooLong" A_TooLong "number") (C_read_parts : Can P w K mg base (L2.CX P w) 24 "read_parts" ["text", "at", "deep"] (spParts A_BadText 6)) : Can P w K mg base (L2.CX P w) 25 "read_round" ["text"] (spReadRound K A_BadText A_TooLong) := by
  refine canX F sc_read_round (fun vs H Q E h => ?_) (fun f cdv A outer s H vs Q E hr h => ⟨_, (pss_cons (ps_if (pt_not (pt_val (pe_callB call_isi (by rfl) T.b_isinstance boot_isinstance (pa_cons (pv 0) (pa_cons (pe_bltn (v := .ty "str") (by rfl) T.b_str boot_str rfl) pa_nil))))) (pss_one (ps_raise rfl (takes_of rfl rfl rfl rfl) (pmk_err E_BadText hr (by decide) rfl (pa_cons (pe_un un_neg pe_int) pa_nil)))) pss_nil)
  (pss_cons (ps_asg (pe_canX C_read_parts hr (by decide) rfl (passes_call (takes_of rfl rfl rfl rfl) (fun _ _ _ _ h => h)) (pa_cons (pv 0) (pa_cons pe_int (pa_cons pe_int pa_nil)))) (pg_tup rfl (pgs_cons (pg_name (i := 1) sc_read_round.nd rfl (by first | exact Or.inl rfl | exact Or.inr rfl)) (pgs_cons (pg_name (i := 2) sc_read_round.nd rfl (by first | exact Or.inl rfl | exact Or.inr rfl)) (pgs_cons (pg_name (i := 3) sc_read_round.nd rfl (by first | exact Or.inl rfl | exact Or.inr rfl)) pgs_nil)))))
  (pss_cons (ps_if (pt_cmpR op_gt (pv 2) (C8.pe_gc rfl c_MOST_BEATS) (nomark _)) (pss_one (ps_raise rfl (takes_of rfl rfl rfl rfl) (pmk_err E_TooLong hr (by decide) rfl (pa_cons (pv 2) pa_nil)))) pss_nil)
  (pss_one (ps_ret (pv 3)))))), ?_⟩)
  · obtain ⟨_, rfl, _⟩ := h
    rfl
  · obtain ⟨x, rfl, h⟩ := h
    rcases h with ⟨m, hm, hk, w1⟩ | ⟨l, rfl, hl, q⟩
    · walk_at "rd"
      refine r_isi hm hk ?_
      walk_at "rd"
      exact r_mk w1
    · walk_at "rd"
      refine ⟨l, 0, rfl, hl, Nat.zero_le _, ?_⟩
      show OutR A_BadText l (rdAt 6 true (l.drop 0)) H _ E
      rw [List.drop_zero]
      unfold OutRound at q
      cases hx : rdAt 6 true l with
      | error e =>
        rw [hx] at q
        exact q
      | ok g =>
        rw [hx] at q
        obtain ⟨q1, q2⟩ := q
        intro p H1 ex1 hp
        walk_at "rd"
        refine r_gtup3 rfl (Evl.st_of hp) ?_
        walk_at "rd"
        refine r_ite (fun h => ?_) (fun h => ?_)
        · walk_at "rd"
          exact r_mk ((q2 (by omega)).ex ex1)
        · walk_at "rd"
          exact q1 (by omega) H1 ex1
end
end Fk

set_option Elab.async false
set_option linter.all false
set_option maxRecDepth 100000
set_option maxHeartbeats 4000000
namespace Fk
open PySem PySem.Spec PyProof.Rows L2 Fg
local macro_rules | `(tactic| walk_at "rd1") => `(tactic| first
  | with_reducible refine r_seq ?_
  | with_reducible refine r_asg ?_
  | with_reducible refine r_gname ?_
  | with_reducible refine r_gsub ?_
  | with_reducible refine r_ret ?_
  | with_reducible refine r_retN ?_
  | with_reducible refine r_next ?_
  | with_reducible refine r_drop ?_
  | with_reducible refine r_ifS ?_
  | with_reducible refine r_if ?_
  | with_reducible refine r_par ?_
  | with_reducible refine r_pair ?_
  | with_reducible refine r_test ?_
  | with_reducible refine r_tB ?_
  | with_reducible refine r_not ?_
  | with_reducible refine r_and ?_
  | with_reducible refine r_or ?_
  | with_reducible refine r_andV ?_
  | with_reducible refine r_orV ?_
  | with_reducible refine r_notV ?_
  | with_reducible refine r_nil ?_
  | with_reducible refine r_cons ?_
  | with_reducible refine r_call ?_
  | with_reducible refine r_callS ?_
  | with_reducible refine r_cb ?_
  | with_reducible refine r_then ?_
  | with_reducible refine r_tup ?_
  | with_reducible refine r_lst ?_
  | with_reducible refine r_sl ?_
  | with_reducible refine r_nopart ?_
  | with_reducible refine r_part ?_
  | with_reducible refine r_lcR1 ?_
  | with_reducible refine r_lcR2 ?_
  | with_reducible refine r_lcL ?_
  | with_reducible refine r_lcT ?_
  | with_reducible refine r_forR1 ?_
  | with_reducible refine r_forR2 ?_
  | with_reducible refine r_forL ?_
  | with_reducible refine r_forT ?_
  | with_reducible refine r_forE ?_
  | with_reducible refine r_strE ?_
  | ((with_reducible refine r_rng1 ?hc ?_); (case hc => omega))
  | ((with_reducible refine r_rng2 ?hc ?_); (case hc => omega))
  | ((with_reducible refine' r_refL ?hc ?_); (case hc => first | assumption | exact Evl.sq_of (by assumption)))
  | ((with_reducible refine' r_refT ?hc ?_); (case hc => first | assumption | exact Evl.st_of (by assumption)))
  | with_reducible refine r_op ?_
  | with_reducible refine r_un ?_
  | with_reducible refine r_chain ?_
  | ((with_reducible refine' r_var ?hv ?_); (case hv => exact rfl))
  | with_reducible refine r_cS ?_
  | with_reducible refine r_cs ?_
  | with_reducible refine r_c ?_
  | with_reducible refine r_yes ?_
  | with_reducible refine r_bm ?_
  | with_reducible refine r_bl ?_
  | with_reducible refine r_in ?_
  | with_reducible refine r_ty ?_
  | with_reducible refine r_I0 ?_
  | ((with_reducible refine r_I ?hc ?_); (case hc => first | assumption | (show (0 : Int) < _; decide) | exact Or.inr ⟨by decide, by decide⟩ | exact Or.inr ⟨by omega, by omega⟩ | exact Or.inl ⟨by decide, by decide⟩ | exact (show CDivW _ _ from ⟨by decide, by decide +kernel⟩) | exact (show CPowW _ _ from ⟨by decide, by decide +kernel⟩) | (show (0 : Int) < _; omega)))
  | with_reducible refine r_U ?_
  | with_reducible refine r_eqI ?_
  | with_reducible refine r_neI ?_
  | with_reducible refine r_eqS ?_
  | with_reducible refine r_neS ?_
  | with_reducible refine r_eqB ?_
  | with_reducible refine r_neB ?_
  | with_reducible refine r_niS ?_
  | with_reducible refine r_inSS ?_
  | ((with_reducible refine r_slSS ?hc ?_); (case hc => first | exact small (by omega) | exact small (by simp; omega)))
  | ((with_reducible refine r_lenS ?hc ?_); (case hc => first | exact small (by omega) | exact small (by simp; omega)))
  | ((with_reducible refine' r_lenL ?hc ?_); (case hc => first | assumption | exact Evl.sq_of (by assumption)))
  | ((with_reducible refine' r_lenT ?hc ?_); (case hc => first | assumption | exact Evl.st_of (by assumption)))
  | ((with_reducible refine' r_ixL ?h1 ?h2 ?h3 ?_); (case h1 => first | assumption | exact Evl.sq_of (by assumption) | exact Evl.sq_of upd_same); (case h2 => first | decide | omega); (case h3 => first | exact rfl | assumption))
  | ((with_reducible refine' r_ixT ?h1 ?h2 ?h3 ?_); (case h1 => first | assumption | exact Evl.st_of (by assumption)); (case h2 => first | decide | omega); (case h3 => first | exact rfl | assumption))
  | with_reducible refine r_T ?_
  | with_reducible refine r_notNn ?_
  | with_reducible refine r_notN_int ?_
  | with_reducible refine r_notN_str ?_
  | with_reducible refine r_notN_ref ?_
  | with_reducible refine r_isNn ?_
  | with_reducible refine r_isN_int ?_
  | with_reducible refine r_isN_str ?_
  | with_reducible refine r_isN_ref ?_
  | ((with_reducible refine' r_isi ?ht ?hk ?_); (case ht => first | exact .base (.int _) | exact .base (.bl _) | exact .base (.str _) | exact .base .non | exact .base (.lst (by assumption)) | exact .base (.tup (by assumption))); (case hk => first | exact kb_int_int | exact kb_int_bool | exact kb_int_str | exact kb_int_list | exact kb_int_tuple | exact kb_bool_int | exact kb_bool_bool | exact kb_bool_str | exact kb_bool_list | exact kb_bool_tuple | exact kb_str_int | exact kb_str_bool | exact kb_str_str | exact kb_str_list | exact kb_str_tuple | exact kb_NoneType_int | exact kb_NoneType_bool | exact kb_NoneType_str | exact kb_NoneType_list | exact kb_NoneType_tuple | exact kb_list_int | exact kb_list_bool | exact kb_list_str | exact kb_list_list | exact kb_list_tuple | exact kb_tuple_int | exact kb_tuple_bool | exact kb_tuple_str | exact kb_tuple_list | exact kb_tuple_tuple))
  | with_reducible refine r_F ?_
  | with_reducible refine r_nT ?_
  | with_reducible refine r_nF ?_
  | with_reducible refine r_mko ?_
  | with_reducible refine r_xf ?_
  | ((with_reducible refine' r_sum ?hc ?_); (case hc => first | assumption | exact Evl.sq_of (by assumption)))
  | ((with_reducible refine' r_setL ?h1 ?h2 ?h3 ?_); (case h1 => first | assumption | exact upd_same); (case h2 => first | decide | omega); (case h3 => first | (show _ < _; decide) | (simp; done)))
  | with_reducible refine r_int ?_
  | with_reducible refine r_abs ?_)
local macro_rules | `(tactic| walk_at "rd") => `(tactic| repeat (walk_at "rd1"))

section
variable {P : Program} {w : World} {K : PySem.W.Frag} {mg : Str → Option Value} {base : Heap}
abbrev s_l_mix : Stmt := topS 41
abbrev N_l_mix : List Str := ["_law_cell", "_law_turn", "_law_one", "_law_two"]
theorem sc_l_mix : FnScope ["_law_cell", "_law_turn", "_law_one", "_law_two"] ["_law_cell", "_law_turn"] (defScope s_l_mix) := ⟨rfl, rfl, rfl, by decide +kernel, rfl, by decide +kernel, by decide +kernel⟩
def spMix : Sp := fun vs H Q _ => ∃ a b : Int, vs = [.int a, .int b] ∧ ∀ k : Int, Q (.int k) H
theorem can_mix (T : Bi mg) (F : Defd K mg "_law_mix" s_l_mix ["_law_cell", "_law_turn"]) : Can P w K mg base L2.CX0 1 "_law_mix" ["_law_cell", "_law_turn"] spMix := by
  refine can0 F sc_l_mix (fun vs H Q E h => ?_) (fun f cdv A outer s H vs Q E hr h => ⟨_, (pss_cons (ps_set (i := 2) sc_l_mix.nd rfl (by first | exact Or.inl rfl | exact Or.inr rfl) (pe_op op_mod (pe_callTy call_intI (by rfl) T.b_int boot_int (pa_cons (pe_op op_add (pe_op op_add (pe_op op_mul (pv 0) pe_int) (pe_op op_mul (pv 1) pe_int)) pe_int) pa_nil)) pe_int))
  (pss_cons (ps_set (i := 3) sc_l_mix.nd rfl (by first | exact Or.inl rfl | exact Or.inr rfl) (pe_op op_mod (pe_callTy call_intI (by rfl) T.b_int boot_int (pa_cons (pe_op op_add (pe_op op_add (pe_op op_mul (pv 2) (pv 2)) (pe_op op_mul (pv 1) pe_int)) (pv 0)) pa_nil)) pe_int))
  (pss_cons (ps_set (i := 3) sc_l_mix.nd rfl (by first | exact Or.inl rfl | exact Or.inr rfl) (pe_op op_mod (pe_callTy call_intI (by rfl) T.b_int boot_int (pa_cons (pe_op op_add (pe_op op_mul (pv 3) (pv 3)) (pv 2)) pa_nil)) pe_int))
  (pss_one (ps_ret (pe_op op_fdivW (pv 3) pe_int)))))), ?_⟩)
  · obtain ⟨a, b, rfl, _⟩ := h
    rfl
  · obtain ⟨a, b, rfl, q⟩ := h
    walk_at "rd"
    exact q _
abbrev s_l_draw : Stmt := topS 40
abbrev N_l_draw : List Str := ["_law_script", "_law_cells", "_law_cell"]
theorem sc_l_draw : FnScope ["_law_script", "_law_cells", "_law_cell"] ["_law_script"] (defScope s_l_draw) := ⟨rfl, rfl, rfl, by decide +kernel, rfl, by decide +kernel, by decide +kernel⟩abbrev s_l_pick : Stmt := topS 42
abbrev N_l_pick : List Str := ["_law_draw_here", "_law_many", "_law_cell", "_law_digit", "_law_found"]
theorem sc_l_pick : FnScope ["_law_draw_here", "_law_many", "_law_cell", "_law_digit", "_law_found"] ["_law_draw_here", "_law_many"] (defScope s_l_pick) := ⟨rfl, rfl, rfl, by decide +kernel, rfl, by decide +kernel, by decide +kernel⟩
abbrev Big : Int := (10 ^ 60) ^ 64
/-- a draw at d: its cells at c -/
structure Dr (ns : List Int) (c d : Addr) (H : Hp) : Prop where
  ne : c ≠ d
  cells : H c = some (.lst (ns.map V.int))
  ex : ∃ i n big cnt base : Int, H d = some (.lst [.ref c, .int i, .int big, .int cnt, .int n, .int base]) ∧ 0 ≤ i
theorem Dr.ex' {ns : List Int} {c d : Addr} {H H' : Hp} (D : Dr ns c d H) (e : Ex H H') : Dr ns c d H' := ⟨D.ne, e _ _ D.cells, by
  obtain ⟨i, n, big, cnt, base, h, r⟩ := D.ex
  exact ⟨i, n, big, cnt, base, e _ _ h, r⟩⟩
theorem Dr.put {ns : List Int} {c d : Addr} {H : Hp} (D : Dr ns c d H) {i n big cnt base : Int} (hi : 0 ≤ i) : Dr ns c d (upd H d (.lst [.ref c, .int i, .int big, .int cnt, .int n, .int base])) :=
  ⟨D.ne, by rw [upd_ne D.ne]; exact D.cells, i, n, big, cnt, base, upd_same, hi⟩
theorem Dr.put2 {ns : List Int} {c d : Addr} {H : Hp} {o : HO} (D : Dr ns c d H) {i n big cnt base : Int} (hi : 0 ≤ i) : Dr ns c d (upd (upd H d o) d (.lst [.ref c, .int i, .int big, .int cnt, .int n, .int base])) := by
  rw [upd_upd]
  exact D.put hi
theorem Dr.put3 {ns : List Int} {c d : Addr} {H : Hp} {o o' : HO} (D : Dr ns c d H) {i n big cnt base : Int} (hi : 0 ≤ i) : Dr ns c d (upd (upd (upd H d o) d o') d (.lst [.ref c, .int i, .int big, .int cnt, .int n, .int base])) := by
  rw [upd_upd]
  exact D.put2 hi
theorem kp2 {d : Addr} {H : Hp} {o o' : HO} : Kp d H (upd (upd H d o) d o') := by rw [upd_upd]; exact Kp.upd
theorem kp3 {d : Addr} {H : Hp} {o o' o2 : HO} : Kp d H (upd (upd (upd H d o) d o') d o2) := by rw [upd_upd]; exact kp2
theorem cell_at {ns : List Int} {i : Int} (h0 : 0 ≤ i) (h : i < (ns.map V.int).length) : ∃ z : Int, (ns.map V.int)[i.toNat]? = some (.int z) := by
  have h1 : i.toNat < ns.length := by rw [List.length_map] at h; omega
  exact ⟨ns[i.toNat], by rw [List.getElem?_map, List.getElem?_eq_getElem h1]; rfl⟩
def spDraw (K : PySem.W.Frag) : Sp := fun vs H Q _ => ∃ (a : Addr) (ns : List Int), vs = [.ref a] ∧ SqL K H a (ns.map V.int) ∧ ns.length ≤ 63 ∧ ∀ c d H', H c = none → H d = none → Ex H H' → Dr ns c d H' → Q (.ref d) H'
def spPick : Sp := fun vs H Q _ => ∃ (c d : Addr) (m : Int) (ns : List Int), vs = [.ref d, .int m] ∧ Dr ns c d H ∧ m < 2 ^ 200 ∧ ∀ (k : Int) H', 0 ≤ k → (k < m ∨ k = 0) → Kp d H H' → Dr ns c d H' → Q (.int k) H'
theorem can_draw (T : Bi mg) (F : Defd K mg "_law_draw" s_l_draw ["_law_script"]) : Can P w K mg base L2.CX0 1 "_law_draw" ["_law_script"] (spDraw K) := by
  refine can0 F sc_l_draw (fun vs H Q E h => ?_) (fun f cdv A outer s H vs Q E hr h => ⟨_, (pss_cons (ps_setLc (i := 1) (own := [("_law_cell", 2)]) (g := gName 2) (tt := tYes) rfl sc_l_draw.nd rfl rfl (sw_true rfl rfl rfl (by decide +kernel)) (pi_list (pv 0)) (blkOk_by (N := N_l_draw) (sc := defScope s_l_draw) (by decide +kernel)) (fun _ _ _ _ _ => pg_name (i := 2) sc_l_draw.nd rfl (Or.inl rfl)) (fun _ _ _ _ _ => pts_nil) (fun _ _ _ _ _ => (pv 2)))
  (pss_one (ps_ret (pe_lst (pa_cons (pv 1) (pa_cons pe_int (pa_cons pe_int (pa_cons pe_int (pa_cons pe_int (pa_cons (pe_op op_add (pe_op op_mod (pe_callTy call_intI (by rfl) T.b_int boot_int (pa_cons (pe_callB (cr_sum rfl) (by rfl) T.b_sum boot_sum (pa_cons (pv 1) pa_nil)) pa_nil)) pe_int) (pe_op op_mul pe_int (pe_callB call_lenQ (by rfl) T.b_len boot_len (pa_cons (pv 1) pa_nil)))) pa_nil)))))))))), ?_⟩)
  · obtain ⟨a, ns, rfl, _⟩ := h
    rfl
  · obtain ⟨a, ns, rfl, hS, hl, q⟩ := h
    walk_at "rd"
    refine lcL (xs := ns.map V.int) (fun D i acc H2 => Ex H H2 ∧ acc = (ns.take i).map V.int) (fun _ => rfl) (fun D hD => ⟨Evl.Ex.new hD, rfl⟩) (fun D i H2 acc _ h => Evl.ex_l h.1 hS) (fun D i x H2 acc hD hx h1 h2 h3 => ?_) (fun D H2 acc hD h1 h3 => ?_)
    · obtain ⟨e, rfl⟩ := h3
      have hi : i < 63 := by
        have := lt_of_get hx
        rw [List.length_map] at this
        omega
      walk_at "rd"
      exact lc_end (by omega) h2 h1 ⟨Evl.Ex.mut e hD, (take_map hx).symm⟩
    · obtain ⟨e, rfl⟩ := h3
      rw [List.take_of_length_le (by rw [List.length_map]; omega)] at h1
      walk_at "rd"
      refine ⟨small (by show 6 ≤ 1000000; decide), fun p hp => ?_⟩
      have ne : D ≠ p := ne_of_none h1 hp
      refine q D p _ hD (Evl.fresh_back e hp) (e.trans (Evl.Ex.new hp)) ⟨ne, ?_, _, _, _, _, _, upd_same, Int.le_refl _⟩
      rw [upd_ne ne]
      exact h1
theorem can_pick (T : Bi mg) (F : Defd K mg "_law_pick" s_l_pick ["_law_draw_here", "_law_many"]) (C_l_mix : Can P w K mg base L2.CX0 1 "_law_mix" ["_law_cell", "_law_turn"] spMix) : Can P w K mg base L2.CX0 2 "_law_pick" ["_law_draw_here", "_law_many"] spPick := by
  refine can0 F sc_l_pick (fun vs H Q E h => ?_) (fun f cdv A outer s H vs Q E hr h => ⟨_, (pss_cons (ps_if (pt_cmpR op_lt (pv 1) pe_int (nomark _)) (pss_one (ps_ret pe_int)) pss_nil)
  (Evl.pss_cut (ps_if (PW.pt (pw_and (pt_cmpR op_eq (pe_ix ix_list (pv 0) pe_int (fun _ _ => rfl)) pe_int (nomark _)) (pw_and (pt_cmpR op_lt (pe_ix ix_list (pv 0) pe_int (fun _ _ => rfl)) (pe_callB call_lenQ (by rfl) T.b_len boot_len (pa_cons (pe_ix ix_list (pv 0) pe_int (fun _ _ => rfl)) pa_nil)) (nomark _)) (pw_and1 (pt_cmpR op_eq (pe_ix ix_list (pv 0) pe_int (fun _ _ => rfl)) pe_int (nomark _)))))) (pss_cons (ps_set (i := 2) sc_l_pick.nd rfl (by first | exact Or.inl rfl | exact Or.inr rfl) (pe_ix ix_list (pe_ix ix_list (pv 0) pe_int (fun _ _ => rfl)) (pe_ix ix_list (pv 0) pe_int (fun _ _ => rfl)) (fun _ _ => rfl)))
  (pss_one (ps_if (PW.pt (pw_or (pt_cmpR op_ge (pv 2) (pe_op op_powW pe_int pe_int) (nomark _)) (pw_or1 (pt_cmpR op_le (pv 2) (pe_un un_neg (pe_op op_powW pe_int pe_int)) (nomark _))))) (pss_cons (ps_asg (pe_op op_mod (pe_callTy call_intI (by rfl) T.b_int boot_int (pa_cons (pe_callB call_absI (by rfl) T.b_abs boot_abs (pa_cons (pv 2) pa_nil)) pa_nil)) (pe_op op_powW (pe_op op_powW pe_int pe_int) pe_int)) (pg_sub (pv 0) pe_int set_list))
  (pss_one (ps_asg (pe_op op_add (pe_ix ix_list (pv 0) pe_int (fun _ _ => rfl)) pe_int) (pg_sub (pv 0) pe_int set_list)))) pss_nil))) pss_nil)
  (pss_cons (ps_if (pt_cmpR op_gt (pe_ix ix_list (pv 0) pe_int (fun _ _ => rfl)) pe_int (nomark _)) (pss_cons (ps_set (i := 3) sc_l_pick.nd rfl (by first | exact Or.inl rfl | exact Or.inr rfl) (pe_op op_mod (pe_callTy call_intI (by rfl) T.b_int boot_int (pa_cons (pe_ix ix_list (pv 0) pe_int (fun _ _ => rfl)) pa_nil)) (pv 1)))
  (pss_cons (ps_asg (pe_op op_fdivW (pe_ix ix_list (pv 0) pe_int (fun _ _ => rfl)) (pv 1)) (pg_sub (pv 0) pe_int set_list))
  (pss_one (ps_ret (pv 3))))) pss_nil)
  (pss_cons (ps_if (pt_cmpR op_lt (pe_ix ix_list (pv 0) pe_int (fun _ _ => rfl)) (pe_callB call_lenQ (by rfl) T.b_len boot_len (pa_cons (pe_ix ix_list (pv 0) pe_int (fun _ _ => rfl)) pa_nil)) (nomark _)) (pss_cons (ps_set (i := 2) sc_l_pick.nd rfl (by first | exact Or.inl rfl | exact Or.inr rfl) (pe_ix ix_list (pe_ix ix_list (pv 0) pe_int (fun _ _ => rfl)) (pe_ix ix_list (pv 0) pe_int (fun _ _ => rfl)) (fun _ _ => rfl)))
  (pss_cons (ps_asg (pe_op op_add (pe_ix ix_list (pv 0) pe_int (fun _ _ => rfl)) pe_int) (pg_sub (pv 0) pe_int set_list))
  (pss_cons (ps_set (i := 4) sc_l_pick.nd rfl (by first | exact Or.inl rfl | exact Or.inr rfl) (pe_op op_mod (pe_callTy call_intI (by rfl) T.b_int boot_int (pa_cons (pe_can C_l_mix hr (by decide) rfl (pa_cons (pe_op op_add (pv 2) (pe_op op_mul pe_int (pe_ix ix_list (pv 0) pe_int (fun _ _ => rfl)))) (pa_cons (pe_ix ix_list (pv 0) pe_int (fun _ _ => rfl)) pa_nil))) pa_nil)) (pv 1)))
  (pss_cons (ps_if (pt_cmpR op_eq (pe_ix ix_list (pv 0) pe_int (fun _ _ => rfl)) pe_int (nomark _)) (pss_cons (ps_asg pe_int (pg_sub (pv 0) pe_int set_list))
  (pss_one (ps_asg (pe_op op_add (pe_ix ix_list (pv 0) pe_int (fun _ _ => rfl)) pe_int) (pg_sub (pv 0) pe_int set_list)))) pss_nil)
  (pss_one (ps_ret (pv 4))))))) pss_nil)
  (pss_cons (ps_asg (pe_op op_add (pe_ix ix_list (pv 0) pe_int (fun _ _ => rfl)) pe_int) (pg_sub (pv 0) pe_int set_list))
  (pss_one (ps_ret (pe_op op_mod (pe_callTy call_intI (by rfl) T.b_int boot_int (pa_cons (pe_can C_l_mix hr (by decide) rfl (pa_cons (pe_ix ix_list (pv 0) pe_int (fun _ _ => rfl)) (pa_cons (pe_op op_add (pe_ix ix_list (pv 0) pe_int (fun _ _ => rfl)) pe_int) pa_nil))) pa_nil)) (pv 1))))))))), ?_⟩)
  · obtain ⟨_, _, _, _, rfl, _⟩ := h
    rfl
  · obtain ⟨c, d, m, ns, rfl, hD, hm, q⟩ := h
    obtain ⟨i, n, big, cnt, b0, hd, hi⟩ := hD.ex
    have hc : SqL K H c (ns.map V.int) := Evl.sq_of hD.cells
    have hm9 : m.natAbs.log2 < 9000 ∨ m < 2 := by
      by_cases h2 : m < 2
      · exact .inr h2
      · left
        have h3 : m.natAbs < 2 ^ 200 := by omega
        have := PySem.Flt.log2_lt_of (by decide : 0 < 200) h3
        omega
    walk_at "rd"
    refine r_ite (fun h => ?_) (fun h => ?_)
    · walk_at "rd"
      exact q 0 H (Int.le_refl _) (.inr rfl) (Kp.refl _ _) hD
    walk_at "rd"
    refine r_cut (Mid := fun σ' H' => ∃ x2, σ' = [some (.ref d), some (.int m), x2, none, none] ∧ Kp d H H' ∧ Dr ns c d H') ?_ ?_
    · walk_at "rd"
      have end0 : ∀ x2, ∃ x3, [some (V.ref d), some (V.int m), x2, none, none] = [some (V.ref d), some (V.int m), x3, none, none] ∧ Kp d H H ∧ Dr ns c d H := fun x2 => ⟨x2, rfl, Kp.refl _ _, hD⟩
      refine r_ite (fun h1 => ?_) (fun h1 => ?_)
      · walk_at "rd"
        refine r_ite (fun h2 => ?_) (fun h2 => ?_)
        · obtain ⟨z, hz⟩ := cell_at hi h2
          walk_at "rd"
          refine r_ite (fun h3 => ?_) (fun h3 => ?_)
          · walk_at "rd"
            have big2 : ∃ x3 : Option V, [some (V.ref d), some (V.int m), some (V.int z), none, none] = [some (V.ref d), some (V.int m), x3, none, none] ∧ Kp d H (upd (upd H d (.lst [.ref c, .int i, .int ((if z < 0 then -z else z) % Big), .int cnt, .int n, .int b0])) d (.lst [.ref c, .int (i + 1), .int ((if z < 0 then -z else z) % Big), .int cnt, .int n, .int b0])) ∧ Dr ns c d (upd (upd H d (.lst [.ref c, .int i, .int ((if z < 0 then -z else z) % Big), .int cnt, .int n, .int b0])) d (.lst [.ref c, .int (i + 1), .int ((if z < 0 then -z else z) % Big), .int cnt, .int n, .int b0])) := ⟨_, rfl, kp2, hD.put2 (by omega)⟩
            refine r_ite (fun h4 => ?_) (fun h4 => ?_)
            · walk_at "rd"
              exact big2
            · walk_at "rd"
              refine r_ite (fun h5 => ?_) (fun h5 => ?_)
              · walk_at "rd"
                exact big2
              · walk_at "rd"
                exact end0 _
          · walk_at "rd"
            exact end0 _
        · walk_at "rd"
          exact end0 _
      · walk_at "rd"
        exact end0 _
    · rintro σ' H' ⟨x2, rfl, kp, hD'⟩
      clear hd hi hc
      obtain ⟨i, n, big, cnt, b0, hd, hi⟩ := hD'.ex
      have hc : SqL K H' c (ns.map V.int) := Evl.sq_of hD'.cells
      have hm0 : 0 < m := by omega
      have dv : CDivW big m := ⟨hm0, by omega⟩
      walk_at "rd"
      refine r_ite (fun h1 => ?_) (fun h1 => ?_)
      · walk_at "rd"
        exact q _ _ (Int.emod_nonneg _ (by omega)) (.inl (Int.emod_lt_of_pos _ hm0)) (kp.trans Kp.upd) (hD'.put hi)
      · walk_at "rd"
        refine r_ite (fun h2 => ?_) (fun h2 => ?_)
        · obtain ⟨z, hz⟩ := cell_at hi h2
          walk_at "rd"
          refine ⟨_, _, rfl, fun k => ?_⟩
          walk_at "rd"
          refine r_ite (fun h3 => ?_) (fun h3 => ?_)
          · walk_at "rd"
            exact q _ _ (Int.emod_nonneg _ (by omega)) (.inl (Int.emod_lt_of_pos _ hm0)) (kp.trans kp3) (hD'.put3 (by omega))
          · walk_at "rd"
            exact q _ _ (Int.emod_nonneg _ (by omega)) (.inl (Int.emod_lt_of_pos _ hm0)) (kp.trans Kp.upd) (hD'.put hi)
        · walk_at "rd"
          refine ⟨_, _, rfl, fun k => ?_⟩
          walk_at "rd"
          exact q _ _ (Int.emod_nonneg _ (by omega)) (.inl (Int.emod_lt_of_pos _ hm0)) (kp.trans Kp.upd) (hD'.put hi)
end
end Fk

set_option Elab.async false
set_option linter.all false
set_option maxRecDepth 100000
set_option maxHeartbeats 4000000
namespace Rt
open Fg
/-! ### rhythm texts as they are written -/
abbrev It (α : Type) := Nat × (Nat ⊕ α)
abbrev Pt (α : Type) := List (It α) × Nat
abbrev Tx (α : Type) := List (Pt α)
def T : Nat → Type
  | 0 => Empty
  | n + 1 => Tx (T n)
def digs (t : Nat) : List Nat := if t < 10 then [48 + t] else [48 + t / 10, 48 + t % 10]
section
variable {α : Type}
def wItem (w : α → List Nat) (i : It α) : List Nat := (if 0 < i.1 then digs i.1 else []) ++ match i.2 with
  | .inl c => [c]
  | .inr x => 40 :: (w x ++ [41])
def wPart (w : α → List Nat) (p : Pt α) : List Nat := (p.1.map (wItem w)).flatten ++ (if 0 < p.2 then 64 :: digs p.2 else [])
def wText (w : α → List Nat) : Tx α → List Nat
  | [] => []
  | [p] => wPart w p
  | p :: q :: r => wPart w p ++ 38 :: wText w (q :: r)
def cItem (f : α → Nat) (i : It α) : Nat := max 1 i.1 * match i.2 with
  | .inl _ => 1
  | .inr x => f x
def cItems (f : α → Nat) (l : List (It α)) : Nat := (l.map (cItem f)).sum
def cPart (f : α → Nat) (p : Pt α) : Nat := if 0 < p.2 then p.2 else cItems f p.1
def cText (f : α → Nat) (ps : Tx α) : Nat := ps.foldl (fun a p => Nat.lcm a (cPart f p)) 1
def sItem (g : α → Nat → Nat) (i : It α) (s : Nat) : Nat := match i.2 with
  | .inl c => c
  | .inr x => g x s
def sItems (f : α → Nat) (g : α → Nat → Nat) : List (It α) → Nat → Nat
  | [], _ => 46
  | i :: r, s => if s < cItem f i then sItem g i s else sItems f g r (s - cItem f i)
def sText (f : α → Nat) (g : α → Nat → Nat) : Tx α → Nat → Nat
  | [], _ => 46
  | p :: r, s => if sItems f g p.1 (s % cPart f p) ≠ 46 then sItems f g p.1 (s % cPart f p) else sText f g r s
/-- what can be written, so that it is read back -/
def okItem (ok : α → Prop) (i : It α) : Prop := match i.2 with
  | .inl c => isSg c = true ∧ (i.1 = 0 ∨ 2 ≤ i.1 ∧ i.1 ≤ 24)
  | .inr x => 2 ≤ i.1 ∧ i.1 ≤ 24 ∧ ok x
def okPart (ok : α → Prop) (f : α → Nat) (p : Pt α) : Prop := p.1 ≠ [] ∧ (∀ i ∈ p.1, okItem ok i) ∧ (p.2 = 0 ∨ cItems f p.1 ≤ p.2 ∧ p.2 ≤ 24)
def okText (ok : α → Prop) (f : α → Nat) (ps : Tx α) : Prop := ps ≠ [] ∧ ∀ p ∈ ps, okPart ok f p
end
def wT : (n : Nat) → T n → List Nat
  | 0, x => nomatch x
  | n + 1, x => wText (wT n) x
def cT : (n : Nat) → T n → Nat
  | 0, x => nomatch x
  | n + 1, x => cText (cT n) x
def sT : (n : Nat) → T n → Nat → Nat
  | 0, x => nomatch x
  | n + 1, x => sText (cT n) (sT n) x
def okT : (n : Nat) → T n → Prop
  | 0, x => nomatch x
  | n + 1, x => okText (okT n) (cT n) x
def rowOf (m : Nat) (s : Nat → Nat) : List Nat := if m ≤ 24 then (List.range m).map s else []

theorem digs_dig : ∀ t : Fin 25, ∀ c ∈ digs t.val, isDig c = true := by decide +kernel
theorem digs_val : ∀ t : Fin 25, dval ((digs t.val).take 3) = t.val := by decide +kernel
theorem digs_hd : ∀ t : Fin 25, 0 < t.val → ∃ d ds, digs t.val = d :: ds ∧ d ≠ 48 := by
  intro t ht
  unfold digs
  split
  · exact ⟨_, _, rfl, by omega⟩
  · exact ⟨_, _, rfl, by omega⟩
theorem tw_app {p : Nat → Bool} : ∀ (a b : List Nat), (∀ c ∈ a, p c = true) → (∀ c ∈ b.head?, p c = false) → (a ++ b).takeWhile p = a ∧ (a ++ b).dropWhile p = b
  | [], [], _, _ => ⟨rfl, rfl⟩
  | [], c :: r, _, h => by
    have hc := h c (by simp)
    exact ⟨by simp [hc], by simp [hc]⟩
  | x :: a, b, h, k => by
    obtain ⟨h1, h2⟩ := tw_app a b (fun c hc => h c (List.mem_cons_of_mem _ hc)) k
    have hx := h x (List.mem_cons_self ..)
    exact ⟨by rw [List.cons_append, List.takeWhile_cons, hx]; simp [h1], by rw [List.cons_append, List.dropWhile_cons, hx]; simp [h2]⟩
theorem digs_rs {t : Nat} (h : t ≤ 24) {b : List Nat} (hb : ∀ c ∈ b.head?, isDig c = false) : dsOf (digs t ++ b) = digs t ∧ rsOf (digs t ++ b) = b :=
  tw_app _ _ (digs_dig ⟨t, by omega⟩) hb
theorem sg_dig {c : Nat} (h : isSg c = true) : isDig c = false := by
  have h := of_decide_eq_true h
  unfold isDig
  exact decide_eq_false (by omega)
theorem rep_range {m t : Nat} {s : Nat → Nat} (hp : ∀ k, s (k + m) = s k) : rep t ((List.range m).map s) = (List.range (t * m)).map s := by
  have hp2 : ∀ j k, s (k + j * m) = s k := by
    intro j
    induction j with
    | zero => intro k; rw [Nat.zero_mul, Nat.add_zero]
    | succ j ih => intro k; rw [Nat.succ_mul, ← Nat.add_assoc, hp, ih]
  unfold rep
  induction t with
  | zero => rw [Nat.zero_mul]; rfl
  | succ t ih =>
    rw [List.replicate_succ', List.flatten_append, ih, Nat.succ_mul, List.range_add, List.map_append, List.map_map]
    congr 1
    rw [List.flatten_cons, List.flatten_nil, List.append_nil]
    apply List.map_congr_left
    intro k _
    show s k = s (t * m + k)
    rw [Nat.add_comm, hp2]
section
variable {α : Type} {w : α → List Nat} {f : α → Nat} {g : α → Nat → Nat} {ok : α → Prop} {inner : Option (List Nat → Res)}
theorem rowOf_const {m c : Nat} (h : m ≤ 24) : rowOf m (fun _ => c) = List.replicate m c := by
  unfold rowOf
  rw [if_pos h]
  induction m with
  | zero => rfl
  | succ m ih => rw [List.range_succ, List.map_append, ih (by omega), List.replicate_succ']; rfl
theorem rd_item (hi : ∀ x, ok x → ∃ h, inner = some h ∧ ∀ rest, h (w x ++ 41 :: rest) = .ok (41 :: rest, f x, rowOf (f x) (g x))) (hp : ∀ x, ok x → ∀ k, g x (k + f x) = g x k) (hpos : ∀ x, ok x → 1 ≤ f x)
    (i : It α) (hok : okItem ok i) (rest : List Nat) : rdItem inner (wItem w i ++ rest) = .ok (rest, cItem f i, rowOf (cItem f i) (sItem g i)) := by
  obtain ⟨t, b⟩ := i
  cases b with
  | inl c =>
    obtain ⟨hc, ht⟩ := hok
    have hc' : isSg c = true := hc
    rcases ht with ht | ht
    · have ht' : t = 0 := ht
      subst ht'
      show rdItem inner (c :: rest) = .ok (rest, max 1 0 * 1, rowOf (max 1 0 * 1) (fun _ => c))
      have hd : dsOf (c :: rest) = [] := by
        unfold dsOf
        rw [List.takeWhile_cons, sg_dig hc']
        rfl
      unfold rdItem
      rw [hd]
      rfl
    · have ht' : 2 ≤ t ∧ t ≤ 24 := ht
      have e : wItem w (t, .inl c) ++ rest = digs t ++ c :: rest := by
        show ((if 0 < t then digs t else []) ++ [c]) ++ rest = _
        rw [if_pos (by omega), List.append_assoc]
        rfl
      obtain ⟨h1, h2⟩ := digs_rs ht'.2 (b := c :: rest) (fun x hx => by
        have : x = c := by simpa using hx.symm
        rw [this]; exact sg_dig hc')
      obtain ⟨d, ds, hd, hd48⟩ := digs_hd ⟨t, by omega⟩ (by show 0 < t; omega)
      have hd' : digs t = d :: ds := hd
      have hv : dval ((d :: ds).take 3) = t := by rw [← hd']; exact digs_val ⟨t, by omega⟩
      rw [hd'] at h1 h2
      rw [e]
      have em : cItem f (t, .inl c) = t := by
        show max 1 t * 1 = t
        rw [Nat.mul_one, Nat.max_eq_right (by omega)]
      rw [em]
      show _ = Except.ok (rest, t, rowOf t (fun _ => c))
      rw [rowOf_const ht'.2]
      unfold rdItem
      rw [hd', h1]
      simp only [if_neg hd48]
      rw [h2]
      simp only [hc', if_true]
      rw [hv, if_pos ht']
  | inr x =>
    obtain ⟨t2, t24, hx⟩ := hok
    have t2' : 2 ≤ t := t2
    have t24' : t ≤ 24 := t24
    have e : wItem w (t, .inr x) ++ rest = digs t ++ 40 :: (w x ++ 41 :: rest) := by
      show ((if 0 < t then digs t else []) ++ (40 :: (w x ++ [41]))) ++ rest = _
      rw [if_pos (by omega)]
      simp
    obtain ⟨h1, h2⟩ := digs_rs t24' (b := 40 :: (w x ++ 41 :: rest)) (fun y hy => by
      have : y = 40 := by simpa using hy.symm
      rw [this]; rfl)
    obtain ⟨d, ds, hd, hd48⟩ := digs_hd ⟨t, by omega⟩ (by show 0 < t; omega)
    have hd' : digs t = d :: ds := hd
    have hv : dval ((d :: ds).take 3) = t := by rw [← hd']; exact digs_val ⟨t, by omega⟩
    rw [hd'] at h1 h2
    rw [e]
    have em : cItem f (t, .inr x) = t * f x := by
      show max 1 t * f x = t * f x
      rw [Nat.max_eq_right (by omega)]
    rw [em]
    show _ = Except.ok (rest, t * f x, rowOf (t * f x) (g x))
    obtain ⟨h, hin, hr⟩ := hi x hx
    unfold rdItem
    rw [hd', h1]
    simp only [if_neg hd48]
    rw [h2]
    show (if isSg 40 = true then _ else _) = _
    rw [if_neg (show ¬ isSg 40 = true by decide), if_pos rfl, hv, if_pos ⟨t2', t24'⟩, hin]
    show (match h (w x ++ 41 :: rest) with
      | .error e => Except.error e
      | .ok (r2, b, row) => .ok (r2.drop 1, t * b, kept (t * b) (rep t row))) = _
    rw [hr rest]
    show Except.ok (rest, t * f x, kept (t * f x) (rep t (rowOf (f x) (g x)))) = _
    have er : kept (t * f x) (rep t (rowOf (f x) (g x))) = rowOf (t * f x) (g x) := by
      unfold kept rowOf
      by_cases z : t * f x ≤ 24
      · have z2 : f x ≤ 24 := Nat.le_trans (Nat.le_mul_of_pos_left _ (by omega)) z
        rw [if_pos z, if_pos z, if_pos z2]
        exact rep_range (hp x hx)
      · rw [if_neg z, if_neg z]
    rw [er]
theorem it_stop {item : List Nat → Res} {s : List Nat} (h : goes s = false) : ∀ (n b : Nat) (r : List Nat), rdItems item n s b r = .ok (s, b, r)
  | 0, b, r => rfl
  | n + 1, b, r => by
    unfold rdItems
    rw [h]
    rfl
theorem it_go {item : List Nat → Res} {s : List Nat} {n b : Nat} {r : List Nat} {s2 : List Nat} {m : Nat} {x : List Nat} (h : goes s = true) (hx : item s = .ok (s2, m, x)) : rdItems item (n + 1) s b r = rdItems item n s2 (b + m) (kept (b + m) (r ++ x)) := by
  show (if goes s = true then _ else _) = _
  rw [if_pos h, hx]
def rowsOf (f : α → Nat) (g : α → Nat → Nat) (l : List (It α)) : List Nat := (l.map fun i => rowOf (cItem f i) (sItem g i)).flatten
theorem item_goes {i : It α} (h : okItem ok i) (rest : List Nat) : goes (wItem w i ++ rest) = true := by
  obtain ⟨t, b⟩ := i
  by_cases ht : 0 < t
  · have hd : digs t ≠ [] := by unfold digs; split <;> simp
    have h24 : t ≤ 24 := by
      cases b with
      | inl c => rcases h.2 with z | z
                 · have z' : t = 0 := z
                   omega
                 · exact z.2
      | inr x => exact h.2.1
    have e : ∃ d r, wItem w (t, b) ++ rest = d :: r ∧ isDig d = true := by
      cases hq : digs t with
      | nil => exact absurd hq hd
      | cons d ds =>
        refine ⟨d, ?_⟩
        unfold wItem
        rw [if_pos ht, hq]
        exact ⟨_, rfl, digs_dig ⟨t, by omega⟩ d (by rw [hq]; exact List.mem_cons_self ..)⟩
    obtain ⟨d, r, e, hd2⟩ := e
    rw [e]
    show (isSg d || isDig d) = true
    rw [hd2, Bool.or_true]
  · have ht0 : t = 0 := by omega
    subst ht0
    cases b with
    | inl c =>
      show (isSg c || isDig c) = true
      rw [show isSg c = true from h.1]
      rfl
    | inr x =>
      have : 2 ≤ 0 := h.1
      omega
theorem rd_items {item : List Nat → Res} (HI : ∀ i, okItem ok i → ∀ rest, item (wItem w i ++ rest) = .ok (rest, cItem f i, rowOf (cItem f i) (sItem g i))) :
    ∀ (l : List (It α)) (n b : Nat) (r rest : List Nat), (∀ i ∈ l, okItem ok i) → goes rest = false → l.length ≤ n → (24 < b → r = []) →
      rdItems item n ((l.map (wItem w)).flatten ++ rest) b r = .ok (rest, b + cItems f l, kept (b + cItems f l) (r ++ rowsOf f g l))
  | [], n, b, r, rest, _, hr, _, hb => by
    show rdItems item n rest b r = .ok (rest, b + 0, kept (b + 0) (r ++ []))
    rw [it_stop hr, Nat.add_zero, List.append_nil]
    unfold kept
    split
    · rfl
    · rw [hb (by omega)]
  | i :: l, n, b, r, rest, ho, hr, hn, hb => by
    obtain ⟨k, rfl⟩ : ∃ k, n = k + 1 := ⟨n - 1, by rw [List.length_cons] at hn; omega⟩
    have oi := ho i (List.mem_cons_self ..)
    have e : ((i :: l).map (wItem w)).flatten ++ rest = wItem w i ++ ((l.map (wItem w)).flatten ++ rest) := by
      rw [List.map_cons, List.flatten_cons, List.append_assoc]
    rw [e, it_go (item_goes oi _) (HI i oi _)]
    rw [rd_items HI l k _ _ rest (fun j hj => ho j (List.mem_cons_of_mem _ hj)) hr (by rw [List.length_cons] at hn; omega) (fun z => by unfold kept; rw [if_neg (by omega)])]
    have ec : cItems f (i :: l) = cItem f i + cItems f l := by unfold cItems; rw [List.map_cons, List.sum_cons]
    have er : rowsOf f g (i :: l) = rowOf (cItem f i) (sItem g i) ++ rowsOf f g l := by unfold rowsOf; rw [List.map_cons, List.flatten_cons]
    rw [ec, er, ← Nat.add_assoc]
    by_cases z : b + cItem f i + cItems f l ≤ 24
    · have z2 : b + cItem f i ≤ 24 := by omega
      unfold kept
      rw [if_pos z, if_pos z, if_pos z2, List.append_assoc]
    · unfold kept
      rw [if_neg z, if_neg z]
theorem cItem_pos (hpos : ∀ x, ok x → 1 ≤ f x) {i : It α} (h : okItem ok i) : 1 ≤ cItem f i := by
  obtain ⟨t, b⟩ := i
  cases b with
  | inl c =>
    show 1 ≤ max 1 t * 1
    omega
  | inr x =>
    have h1 : 1 ≤ f x := hpos x h.2.2
    exact Nat.mul_pos (by show 0 < max 1 t; omega) h1
theorem cItems_pos (hpos : ∀ x, ok x → 1 ≤ f x) {l : List (It α)} (hl : l ≠ []) (h : ∀ i ∈ l, okItem ok i) : 1 ≤ cItems f l := by
  cases l with
  | nil => exact absurd rfl hl
  | cons i r =>
    have := cItem_pos hpos (h i (List.mem_cons_self ..))
    unfold cItems
    rw [List.map_cons, List.sum_cons]
    omega
theorem rows_eq : ∀ (l : List (It α)), cItems f l ≤ 24 → rowsOf f g l = (List.range (cItems f l)).map (sItems f g l)
  | [], _ => rfl
  | i :: l, h => by
    have ec : cItems f (i :: l) = cItem f i + cItems f l := by unfold cItems; rw [List.map_cons, List.sum_cons]
    have er : rowsOf f g (i :: l) = rowOf (cItem f i) (sItem g i) ++ rowsOf f g l := by unfold rowsOf; rw [List.map_cons, List.flatten_cons]
    rw [ec] at h
    rw [ec, er, rows_eq l (by omega), List.range_add, List.map_append, List.map_map]
    congr 1
    · unfold rowOf
      rw [if_pos (by omega)]
      apply List.map_congr_left
      intro s hs
      have hs' := List.mem_range.mp hs
      show _ = if s < cItem f i then _ else _
      rw [if_pos hs']
    · apply List.map_congr_left
      intro s _
      show _ = if cItem f i + s < cItem f i then _ else _
      rw [if_neg (by omega), show cItem f i + s - cItem f i = s by omega]
theorem sItems_end : ∀ (l : List (It α)) (s : Nat), cItems f l ≤ s → sItems f g l s = 46
  | [], s, _ => rfl
  | i :: l, s, h => by
    have ec : cItems f (i :: l) = cItem f i + cItems f l := by unfold cItems; rw [List.map_cons, List.sum_cons]
    rw [ec] at h
    show (if s < cItem f i then _ else _) = _
    rw [if_neg (by omega)]
    exact sItems_end l _ (by omega)
theorem len_items : ∀ l : List (It α), l.length ≤ ((l.map (wItem w)).flatten).length
  | [] => Nat.le_refl _
  | i :: l => by
    rw [List.map_cons, List.flatten_cons, List.length_append, List.length_cons]
    have h1 := len_items l
    have h2 : 1 ≤ (wItem w i).length := by
      obtain ⟨t, b⟩ := i
      unfold wItem
      rw [List.length_append]
      cases b with
      | inl c => show 1 ≤ _ + 1; omega
      | inr x => show 1 ≤ _ + ((w x ++ [41]).length + 1); omega
    omega
def behind (b : Nat) (r : List Nat) : List Nat → Res
  | [] => .ok ([], b, r)
  | c :: s3 => if c = 64 then rdWhole s3 b r else .ok (c :: s3, b, r)
theorem part_of {item : List Nat → Res} {s s2 : List Nat} {b : Nat} {r : List Nat} (h : rdItems item s.length s 0 [] = .ok (s2, b, r)) (hb : b ≠ 0) : rdPart item s = behind b r s2 := by
  unfold rdPart
  rw [h]
  show (if b = 0 then _ else _) = _
  rw [if_neg hb]
  cases s2 <;> rfl
theorem kept_rows {l : List (It α)} : kept (0 + cItems f l) ([] ++ rowsOf f g l) = rowOf (cItems f l) (sItems f g l) := by
  rw [Nat.zero_add, List.nil_append]
  unfold kept rowOf
  by_cases z : cItems f l ≤ 24
  · rw [if_pos z, if_pos z, rows_eq l z]
  · rw [if_neg z, if_neg z]
theorem rd_part {item : List Nat → Res} (HI : ∀ i, okItem ok i → ∀ rest, item (wItem w i ++ rest) = .ok (rest, cItem f i, rowOf (cItem f i) (sItem g i))) (hpos : ∀ x, ok x → 1 ≤ f x)
    (p : Pt α) (hp : okPart ok f p) (rest : List Nat) (hr : ∀ c ∈ rest.head?, c = 38 ∨ c = 41) : rdPart item (wPart w p ++ rest) = .ok (rest, cPart f p, rowOf (cPart f p) (sItems f g p.1)) := by
  obtain ⟨l, fill⟩ := p
  obtain ⟨hl, ho, hf⟩ := hp
  have hl' : l ≠ [] := hl
  have ho' : ∀ i ∈ l, okItem ok i := ho
  have p1 := cItems_pos hpos hl' ho'
  have hn := len_items (w := w) l
  rcases hf with hf | hf
  · have hf' : fill = 0 := hf
    subst hf'
    have e : wPart w (l, 0) ++ rest = (l.map (wItem w)).flatten ++ rest := by
      show ((l.map (wItem w)).flatten ++ []) ++ rest = _
      rw [List.append_nil]
    have ec : cPart f (l, 0) = cItems f l := rfl
    have hg : goes rest = false := by
      cases rest with
      | nil => rfl
      | cons c r =>
        have := hr c (by simp)
        rcases this with z | z <;> subst z <;> rfl
    have h := rd_items (f := f) (g := g) HI l (((l.map (wItem w)).flatten ++ rest).length) 0 [] rest ho' hg (by rw [List.length_append]; omega) (fun z => absurd z (by decide))
    rw [kept_rows, Nat.zero_add] at h
    rw [e, ec, part_of h (by omega)]
    cases rest with
    | nil => rfl
    | cons c r =>
      have := hr c (by simp)
      show (if c = 64 then _ else _) = _
      rw [if_neg (by omega)]
  · have hf1 : cItems f l ≤ fill := hf.1
    have hf2 : fill ≤ 24 := hf.2
    have e : wPart w (l, fill) ++ rest = (l.map (wItem w)).flatten ++ (64 :: (digs fill ++ rest)) := by
      show ((l.map (wItem w)).flatten ++ (if 0 < fill then 64 :: digs fill else [])) ++ rest = _
      rw [if_pos (by omega), List.append_assoc]
      rfl
    have ec : cPart f (l, fill) = fill := by
      show (if 0 < fill then fill else _) = fill
      rw [if_pos (by omega)]
    have h := rd_items (f := f) (g := g) HI l (((l.map (wItem w)).flatten ++ (64 :: (digs fill ++ rest))).length) 0 [] (64 :: (digs fill ++ rest)) ho' rfl (by rw [List.length_append]; omega) (fun z => absurd z (by decide))
    rw [kept_rows, Nat.zero_add] at h
    rw [e, ec, part_of h (by omega)]
    show rdWhole (digs fill ++ rest) (cItems f l) (rowOf (cItems f l) (sItems f g l)) = _
    obtain ⟨h1, h2⟩ := digs_rs hf2 (b := rest) (fun c hc => by
      rcases hr c hc with z | z <;> subst z <;> rfl)
    obtain ⟨d, ds, hd, hd48⟩ := digs_hd ⟨fill, by omega⟩ (by show 0 < fill; omega)
    have hd' : digs fill = d :: ds := hd
    have hv : dval ((d :: ds).take 3) = fill := by rw [← hd']; exact digs_val ⟨fill, by omega⟩
    rw [hd'] at h1 h2
    unfold rdWhole
    rw [hd', h1]
    simp only [if_neg hd48]
    rw [hv, if_pos ⟨hf1, hf2⟩, h2]
    have er : rowOf (cItems f l) (sItems f g l) ++ List.replicate (fill - cItems f l) 46 = rowOf fill (sItems f g l) := by
      unfold rowOf
      rw [if_pos hf2, if_pos (by omega)]
      have e3 : fill = cItems f l + (fill - cItems f l) := by omega
      conv => rhs; rw [e3]
      rw [List.range_add, List.map_append, List.map_map]
      congr 1
      have e4 := rowOf_const (m := fill - cItems f l) (c := 46) (by omega)
      unfold rowOf at e4
      rw [if_pos (by omega)] at e4
      rw [← e4]
      apply List.map_congr_left
      intro s _
      show 46 = sItems f g l (cItems f l + s)
      rw [sItems_end l _ (by omega)]
    rw [er]
def tailW (w : α → List Nat) (qs : Tx α) : List Nat := (qs.map fun q => 38 :: wPart w q).flatten
theorem wText_eq : ∀ (p : Pt α) (qs : Tx α), wText w (p :: qs) = wPart w p ++ tailW w qs
  | p, [] => by
    show wPart w p = wPart w p ++ []
    rw [List.append_nil]
  | p, q :: r => by
    show wPart w p ++ 38 :: wText w (q :: r) = _
    rw [wText_eq q r]
    show _ = wPart w p ++ ((38 :: wPart w q) ++ tailW w r)
    rfl
theorem foldl_dvd : ∀ (ps : Tx α) (a : Nat), a ∣ ps.foldl (fun a p => Nat.lcm a (cPart f p)) a ∧ ∀ p ∈ ps, cPart f p ∣ ps.foldl (fun a p => Nat.lcm a (cPart f p)) a
  | [], a => ⟨Nat.dvd_refl a, fun p h => nomatch h⟩
  | q :: ps, a => by
    obtain ⟨h1, h2⟩ := foldl_dvd ps (Nat.lcm a (cPart f q))
    refine ⟨Nat.dvd_trans (Nat.dvd_lcm_left a _) h1, fun p hp => ?_⟩
    rcases List.mem_cons.mp hp with rfl | hp
    · exact Nat.dvd_trans (Nat.dvd_lcm_right a _) h1
    · exact h2 p hp
theorem cText_snoc (ps : Tx α) (q : Pt α) : cText f (ps ++ [q]) = Nat.lcm (cText f ps) (cPart f q) := by
  unfold cText
  rw [List.foldl_append]
  rfl
theorem sText_per : ∀ (ps : Tx α) (m : Nat), (∀ p ∈ ps, cPart f p ∣ m) → ∀ k, sText f g ps (k + m) = sText f g ps k
  | [], m, _, k => rfl
  | p :: ps, m, h, k => by
    obtain ⟨j, hj⟩ := h p (List.mem_cons_self ..)
    have e : (k + m) % cPart f p = k % cPart f p := by rw [hj, Nat.add_mul_mod_self_left]
    show (if sItems f g p.1 ((k + m) % cPart f p) ≠ 46 then _ else _) = _
    rw [e, sText_per ps m (fun q hq => h q (List.mem_cons_of_mem _ hq)) k]
    rfl
theorem text_per (ps : Tx α) (k : Nat) : sText f g ps (k + cText f ps) = sText f g ps k := sText_per ps _ (foldl_dvd ps 1).2 k
theorem sText_snoc : ∀ (ps : Tx α) (q : Pt α) (k : Nat), sText f g (ps ++ [q]) k = if sText f g ps k ≠ 46 then sText f g ps k else sItems f g q.1 (k % cPart f q)
  | [], q, k => by
    show (if sItems f g q.1 (k % cPart f q) ≠ 46 then sItems f g q.1 (k % cPart f q) else 46) = if (46 : Nat) ≠ 46 then 46 else _
    rw [if_neg (fun z : (46 : Nat) ≠ 46 => z rfl)]
    by_cases z : sItems f g q.1 (k % cPart f q) = 46
    · rw [if_neg (fun y => y z), z]
    · rw [if_pos z]
  | p :: ps, q, k => by
    show (if sItems f g p.1 (k % cPart f p) ≠ 46 then _ else sText f g (ps ++ [q]) k) = if (if sItems f g p.1 (k % cPart f p) ≠ 46 then sItems f g p.1 (k % cPart f p) else sText f g ps k) ≠ 46 then (if sItems f g p.1 (k % cPart f p) ≠ 46 then sItems f g p.1 (k % cPart f p) else sText f g ps k) else _
    by_cases z : sItems f g p.1 (k % cPart f p) = 46
    · have e1 : (if sItems f g p.1 (k % cPart f p) ≠ 46 then sItems f g p.1 (k % cPart f p) else sText f g ps k) = sText f g ps k := if_neg (fun y => y z)
      have e2 : (if sItems f g p.1 (k % cPart f p) ≠ 46 then sItems f g p.1 (k % cPart f p) else sText f g (ps ++ [q]) k) = sText f g (ps ++ [q]) k := if_neg (fun y => y z)
      rw [e1, e2]
      exact sText_snoc ps q k
    · rw [if_pos z, if_pos z, if_pos z]
theorem per_mod {m : Nat} {s : Nat → Nat} (hp : ∀ k, s (k + m) = s k) (k : Nat) : s (k % m) = s k := by
  have h : ∀ j k, s (k + m * j) = s k := by
    intro j
    induction j with
    | zero => intro k; rw [Nat.mul_zero, Nat.add_zero]
    | succ j ih => intro k; rw [Nat.mul_succ, ← Nat.add_assoc, hp, ih]
  conv => rhs; rw [← Nat.mod_add_div k m]
  rw [h]
theorem rowOf_get {m : Nat} {s : Nat → Nat} (hm : m ≤ 24) {i : Nat} (hi : i < m) : ((rowOf m s)[i]?).getD 0 = s i := by
  unfold rowOf
  rw [if_pos hm, List.getElem?_map, List.getElem?_range hi]
  rfl
theorem tog_eq {b b2 : Nat} {s1 s2 : Nat → Nat} (p1 : 1 ≤ b) (p2 : 1 ≤ b2) (hp : ∀ k, s1 (k + b) = s1 k) : tog b (rowOf b s1) b2 (rowOf b2 s2) = rowOf (Nat.lcm b b2) (fun k => if s1 k ≠ 46 then s1 k else s2 (k % b2)) := by
  obtain ⟨l1, l2, _, _⟩ := lcm_le p1 p2
  unfold tog
  by_cases z : Nat.lcm b b2 ≤ 24
  · rw [if_pos z]
    conv => rhs; unfold rowOf
    rw [if_pos z]
    apply List.map_congr_left
    intro i _
    rw [rowOf_get (by omega) (Nat.mod_lt _ p1), rowOf_get (by omega) (Nat.mod_lt _ p2), per_mod hp]
    by_cases y : s1 i = 46
    · rw [if_pos y, if_neg (fun x => x y)]
    · rw [if_neg y, if_pos y]
  · rw [if_neg z]
    unfold rowOf
    rw [if_neg z]
theorem cPart_pos (hpos : ∀ x, ok x → 1 ≤ f x) {p : Pt α} (h : okPart ok f p) : 1 ≤ cPart f p := by
  unfold cPart
  split
  · assumption
  · exact cItems_pos hpos h.1 h.2.1
theorem cText_pos (hpos : ∀ x, ok x → 1 ≤ f x) (ps : Tx α) (h : ∀ p ∈ ps, okPart ok f p) : 1 ≤ cText f ps := by
  have : ∀ (ps : Tx α) (a : Nat), 1 ≤ a → (∀ p ∈ ps, okPart ok f p) → 1 ≤ ps.foldl (fun a p => Nat.lcm a (cPart f p)) a := by
    intro ps
    induction ps with
    | nil => intro a ha _; exact ha
    | cons p ps ih =>
      intro a ha h
      exact ih _ (Nat.lcm_pos ha (cPart_pos hpos (h p (List.mem_cons_self ..)))) (fun q hq => h q (List.mem_cons_of_mem _ hq))
  exact this ps 1 (Nat.le_refl 1) h
theorem jn_stop {part : List Nat → Res} {s : List Nat} (h : ∀ c ∈ s.head?, c ≠ 38) : ∀ (n b : Nat) (r : List Nat), rdJoin part n s b r = .ok (s, b, r)
  | 0, b, r => rfl
  | n + 1, b, r => by
    unfold rdJoin
    cases s with
    | nil => rfl
    | cons c s2 =>
      show (if c = 38 then _ else _) = _
      rw [if_neg (h c (by simp))]
theorem jn_go {part : List Nat → Res} {s2 s3 : List Nat} {n b b2 : Nat} {r r2 : List Nat} (h : part s2 = .ok (s3, b2, r2)) : rdJoin part (n + 1) (38 :: s2) b r = rdJoin part n s3 (Nat.lcm b b2) (tog b r b2 r2) := by
  have : ∀ c : Nat, c = 38 → rdJoin part (n + 1) (c :: s2) b r = rdJoin part n s3 (Nat.lcm b b2) (tog b r b2 r2) := by
    intro c hc
    show (if c = 38 then _ else _) = _
    rw [if_pos hc, h]
  exact this 38 rfl
theorem rd_join {part : List Nat → Res} (hpos : ∀ x, ok x → 1 ≤ f x) (HP : ∀ p, okPart ok f p → ∀ rest, (∀ c ∈ rest.head?, c = 38 ∨ c = 41) → part (wPart w p ++ rest) = .ok (rest, cPart f p, rowOf (cPart f p) (sItems f g p.1)))
    (rest : List Nat) (hr : ∀ c ∈ rest.head?, c = 41) : ∀ (qs ps : Tx α) (n : Nat), qs.length ≤ n → (∀ p ∈ ps, okPart ok f p) → (∀ q ∈ qs, okPart ok f q) →
      rdJoin part n (tailW w qs ++ rest) (cText f ps) (rowOf (cText f ps) (sText f g ps)) = .ok (rest, cText f (ps ++ qs), rowOf (cText f (ps ++ qs)) (sText f g (ps ++ qs)))
  | [], ps, n, _, hps, _ => by
    rw [List.append_nil]
    exact jn_stop (fun c hc => by have := hr c hc; omega) _ _ _
  | q :: qs, ps, n, hn, hps, hqs => by
    obtain ⟨k, rfl⟩ : ∃ k, n = k + 1 := ⟨n - 1, by rw [List.length_cons] at hn; omega⟩
    have oq := hqs q (List.mem_cons_self ..)
    have e : tailW w (q :: qs) ++ rest = 38 :: (wPart w q ++ (tailW w qs ++ rest)) := by
      show ((38 :: wPart w q) ++ tailW w qs) ++ rest = _
      rw [List.append_assoc]
      rfl
    have hh : ∀ c ∈ (tailW w qs ++ rest).head?, c = 38 ∨ c = 41 := by
      intro c hc
      cases qs with
      | nil => exact .inr (hr c hc)
      | cons q2 qs2 =>
        have : c = 38 := by
          have e2 : tailW w (q2 :: qs2) ++ rest = 38 :: (wPart w q2 ++ (tailW w qs2 ++ rest)) := by
            show ((38 :: wPart w q2) ++ tailW w qs2) ++ rest = _
            rw [List.append_assoc]
            rfl
          rw [e2] at hc
          simpa using hc.symm
        exact .inl this
    rw [e, jn_go (HP q oq _ hh), tog_eq (cText_pos hpos ps hps) (cPart_pos hpos oq) (text_per ps)]
    have e3 : (fun k => if sText f g ps k ≠ 46 then sText f g ps k else sItems f g q.1 (k % cPart f q)) = sText f g (ps ++ [q]) := by
      funext k
      rw [sText_snoc]
    rw [e3, ← cText_snoc]
    have ih := rd_join hpos HP rest hr qs (ps ++ [q]) k (by rw [List.length_cons] at hn; omega) (fun p hp => by
      rcases List.mem_append.mp hp with z | z
      · exact hps p z
      · have : p = q := by simpa using z
        rw [this]; exact oq) (fun p hp => hqs p (List.mem_cons_of_mem _ hp))
    rw [ih, List.append_assoc]
    rfl
theorem len_tail : ∀ qs : Tx α, qs.length ≤ (tailW w qs).length
  | [] => Nat.le_refl _
  | q :: qs => by
    have h1 := len_tail qs
    show qs.length + 1 ≤ ((38 :: wPart w q) ++ tailW w qs).length
    rw [List.length_append, List.length_cons]
    omega
theorem rd_text {part : List Nat → Res} (hpos : ∀ x, ok x → 1 ≤ f x) (HP : ∀ p, okPart ok f p → ∀ rest, (∀ c ∈ rest.head?, c = 38 ∨ c = 41) → part (wPart w p ++ rest) = .ok (rest, cPart f p, rowOf (cPart f p) (sItems f g p.1)))
    (hper : ∀ p, okPart ok f p → True) (ps : Tx α) (hps : okText ok f ps) (top : Bool) (rest : List Nat) (hr : ∀ c ∈ rest.head?, c = 41) (ht : rest.take 1 = endOf top) :
    rdParts part top (wText w ps ++ rest) = .ok (rest, cText f ps, rowOf (cText f ps) (sText f g ps)) := by
  obtain ⟨hne, ho⟩ := hps
  cases ps with
  | nil => exact absurd rfl hne
  | cons p qs =>
    have op := ho p (List.mem_cons_self ..)
    have hh : ∀ c ∈ (tailW w qs ++ rest).head?, c = 38 ∨ c = 41 := by
      intro c hc
      cases qs with
      | nil => exact .inr (hr c hc)
      | cons q2 qs2 =>
        have e2 : tailW w (q2 :: qs2) ++ rest = 38 :: (wPart w q2 ++ (tailW w qs2 ++ rest)) := by
          show ((38 :: wPart w q2) ++ tailW w qs2) ++ rest = _
          rw [List.append_assoc]
          rfl
        rw [e2] at hc
        exact .inl (by simpa using hc.symm)
    have h1 := HP p op _ hh
    have ec : cText f [p] = cPart f p := by
      show Nat.lcm 1 (cPart f p) = _
      rw [Nat.lcm_one_left]
    have p1 := cPart_pos hpos op
    have er : rowOf (cPart f p) (sItems f g p.1) = rowOf (cText f [p]) (sText f g [p]) := by
      rw [ec]
      unfold rowOf
      split
      · apply List.map_congr_left
        intro k hk
        have hk' := List.mem_range.mp hk
        show _ = if sItems f g p.1 (k % cPart f p) ≠ 46 then sItems f g p.1 (k % cPart f p) else 46
        rw [Nat.mod_eq_of_lt hk']
        by_cases z : sItems f g p.1 k = 46
        · rw [if_neg (fun y => y z), z]
        · rw [if_pos z]
      · rfl
    have h2 := rd_join (g := g) hpos HP rest hr qs [p] ((tailW w qs ++ rest).length) (by
      have := len_tail (w := w) qs
      rw [List.length_append]; omega) (fun q hq => by
        have : q = p := by simpa using hq
        rw [this]; exact op) (fun q hq => ho q (List.mem_cons_of_mem _ hq))
    rw [← er, ec] at h2
    rw [wText_eq, List.append_assoc]
    unfold rdParts
    rw [h1]
    show (match rdJoin part (tailW w qs ++ rest).length (tailW w qs ++ rest) (cPart f p) (rowOf (cPart f p) (sItems f g p.1)) with
      | .error e => Except.error e
      | .ok (s3, b3, r3) => if s3.take 1 = endOf top then .ok (s3, b3, r3) else .error s3.length) = _
    rw [h2]
    show (if rest.take 1 = endOf top then _ else _) = _
    rw [if_pos ht]
    rfl
end
theorem cT_pos : ∀ (n : Nat) (x : T n), okT n x → 1 ≤ cT n x
  | 0, x, _ => nomatch x
  | n + 1, x, h => by
    have h' : okText (okT n) (cT n) x := h
    exact cText_pos (ok := okT n) (f := cT n) (cT_pos n) x h'.2
theorem sT_per : ∀ (n : Nat) (x : T n) (k : Nat), sT n x (k + cT n x) = sT n x k
  | 0, x, _ => nomatch x
  | n + 1, x, k => text_per (f := cT n) (g := sT n) x k
/-- what is written is read -/
theorem read_T : ∀ (n : Nat) (x : T (n + 1)), okT (n + 1) x → ∀ (top : Bool) (rest : List Nat), (∀ c ∈ rest.head?, c = 41) → rest.take 1 = endOf top →
    rdAt n top (wT (n + 1) x ++ rest) = .ok (rest, cT (n + 1) x, rowOf (cT (n + 1) x) (sT (n + 1) x))
  | 0, x, h, top, rest, hr, ht => by
    have HI := rd_item (α := T 0) (w := wT 0) (f := cT 0) (g := sT 0) (ok := okT 0) (inner := none) (fun x => nomatch x) (fun x => nomatch x) (fun x => nomatch x)
    exact rd_text (α := T 0) (ok := okT 0) (f := cT 0) (g := sT 0) (w := wT 0) (fun x => nomatch x) (rd_part HI (fun x => nomatch x)) (fun _ _ => trivial) x h top rest hr ht
  | n + 1, x, h, top, rest, hr, ht => by
    have HI := rd_item (α := T (n + 1)) (w := wT (n + 1)) (f := cT (n + 1)) (g := sT (n + 1)) (ok := okT (n + 1)) (inner := some (rdAt n false)) (fun x hx => ⟨rdAt n false, rfl, fun rest => read_T n x hx false (41 :: rest) (fun c hc => by simpa using hc.symm) rfl⟩) (fun x hx => sT_per (n + 1) x) (cT_pos (n + 1))
    exact rd_text (α := T (n + 1)) (ok := okT (n + 1)) (f := cT (n + 1)) (g := sT (n + 1)) (w := wT (n + 1)) (cT_pos (n + 1)) (rd_part HI (cT_pos (n + 1))) (fun _ _ => trivial) x h top rest hr ht
/-- .. at most seven levels are read by read_round -/
def up : (n : Nat) → T n → T (n + 1)
  | 0, x => nomatch x
  | n + 1, x => (show Tx (T n) from x).map fun p => (p.1.map fun i => (i.1, match i.2 with
    | .inl c => .inl c
    | .inr y => .inr (up n y)), p.2)
end Rt

set_option Elab.async false
set_option linter.all false
set_option maxRecDepth 100000
set_option maxHeartbeats 4000000
namespace Rt
open Fg
/-! ### a text of one level is one of the next -/
section
variable {α β : Type} {h : α → β}
def mI (h : α → β) (i : It α) : It β := (i.1, match i.2 with
  | .inl c => .inl c
  | .inr y => .inr (h y))
def mP (h : α → β) (p : Pt α) : Pt β := (p.1.map (mI h), p.2)
def mX (h : α → β) (ps : Tx α) : Tx β := ps.map (mP h)
theorem mI_w {w : α → List Nat} {w' : β → List Nat} (e : ∀ x, w' (h x) = w x) (i : It α) : wItem w' (mI h i) = wItem w i := by
  obtain ⟨t, b⟩ := i
  cases b with
  | inl c => rfl
  | inr x =>
    show (if 0 < t then digs t else []) ++ (40 :: (w' (h x) ++ [41])) = _
    rw [e]
    rfl
theorem mP_w {w : α → List Nat} {w' : β → List Nat} (e : ∀ x, w' (h x) = w x) (p : Pt α) : wPart w' (mP h p) = wPart w p := by
  unfold wPart mP
  rw [List.map_map, show (wItem w' ∘ mI h) = wItem w from funext (mI_w e)]
theorem mX_w {w : α → List Nat} {w' : β → List Nat} (e : ∀ x, w' (h x) = w x) : ∀ ps : Tx α, wText w' (mX h ps) = wText w ps
  | [] => rfl
  | [p] => mP_w e p
  | p :: q :: r => by
    show wPart w' (mP h p) ++ 38 :: wText w' (mX h (q :: r)) = _
    rw [mP_w e, mX_w e (q :: r)]
    rfl
theorem mI_c {f : α → Nat} {f' : β → Nat} (e : ∀ x, f' (h x) = f x) (i : It α) : cItem f' (mI h i) = cItem f i := by
  obtain ⟨t, b⟩ := i
  cases b with
  | inl c => rfl
  | inr x =>
    show max 1 t * f' (h x) = max 1 t * f x
    rw [e]
theorem mI_cs {f : α → Nat} {f' : β → Nat} (e : ∀ x, f' (h x) = f x) (l : List (It α)) : cItems f' (l.map (mI h)) = cItems f l := by
  unfold cItems
  rw [List.map_map, show (cItem f' ∘ mI h) = cItem f from funext (mI_c e)]
theorem mP_c {f : α → Nat} {f' : β → Nat} (e : ∀ x, f' (h x) = f x) (p : Pt α) : cPart f' (mP h p) = cPart f p := by
  unfold cPart mP
  rw [mI_cs e]
theorem mX_c {f : α → Nat} {f' : β → Nat} (e : ∀ x, f' (h x) = f x) (ps : Tx α) : cText f' (mX h ps) = cText f ps := by
  unfold cText mX
  rw [List.foldl_map]
  congr 1
  funext a p
  rw [mP_c e]
theorem mI_ss {f : α → Nat} {f' : β → Nat} {g : α → Nat → Nat} {g' : β → Nat → Nat} (e : ∀ x, f' (h x) = f x) (eg : ∀ x, g' (h x) = g x) : ∀ (l : List (It α)) (s : Nat), sItems f' g' (l.map (mI h)) s = sItems f g l s
  | [], s => rfl
  | i :: l, s => by
    show (if s < cItem f' (mI h i) then sItem g' (mI h i) s else sItems f' g' (l.map (mI h)) (s - cItem f' (mI h i))) = if s < cItem f i then sItem g i s else sItems f g l (s - cItem f i)
    rw [mI_c e, mI_ss e eg l]
    have : sItem g' (mI h i) s = sItem g i s := by
      obtain ⟨t, b⟩ := i
      cases b with
      | inl c => rfl
      | inr x =>
        show g' (h x) s = g x s
        rw [eg]
    rw [this]
theorem mX_s {f : α → Nat} {f' : β → Nat} {g : α → Nat → Nat} {g' : β → Nat → Nat} (e : ∀ x, f' (h x) = f x) (eg : ∀ x, g' (h x) = g x) : ∀ (ps : Tx α) (s : Nat), sText f' g' (mX h ps) s = sText f g ps s
  | [], s => rfl
  | p :: ps, s => by
    show (if sItems f' g' (p.1.map (mI h)) (s % cPart f' (mP h p)) ≠ 46 then sItems f' g' (p.1.map (mI h)) (s % cPart f' (mP h p)) else sText f' g' (mX h ps) s) = if sItems f g p.1 (s % cPart f p) ≠ 46 then sItems f g p.1 (s % cPart f p) else sText f g ps s
    rw [mP_c e, mI_ss e eg, mX_s e eg ps]
theorem mI_ok {ok : α → Prop} {ok' : β → Prop} (eo : ∀ x, ok x → ok' (h x)) {i : It α} (hi : okItem ok i) : okItem ok' (mI h i) := by
  obtain ⟨t, b⟩ := i
  cases b with
  | inl c => exact hi
  | inr x => exact ⟨hi.1, hi.2.1, eo x hi.2.2⟩
theorem mP_ok {ok : α → Prop} {ok' : β → Prop} {f : α → Nat} {f' : β → Nat} (eo : ∀ x, ok x → ok' (h x)) (e : ∀ x, f' (h x) = f x) {p : Pt α} (hp : okPart ok f p) : okPart ok' f' (mP h p) := by
  obtain ⟨h1, h2, h3⟩ := hp
  refine ⟨fun z => h1 (List.map_eq_nil_iff.mp z), fun i hi => ?_, ?_⟩
  · obtain ⟨j, hj, rfl⟩ := List.mem_map.mp hi
    exact mI_ok eo (h2 j hj)
  · show p.2 = 0 ∨ cItems f' (p.1.map (mI h)) ≤ p.2 ∧ p.2 ≤ 24
    rw [mI_cs e]
    exact h3
theorem mX_ok {ok : α → Prop} {ok' : β → Prop} {f : α → Nat} {f' : β → Nat} (eo : ∀ x, ok x → ok' (h x)) (e : ∀ x, f' (h x) = f x) {ps : Tx α} (hp : okText ok f ps) : okText ok' f' (mX h ps) := by
  refine ⟨fun z => hp.1 (List.map_eq_nil_iff.mp z), fun p hp2 => ?_⟩
  obtain ⟨q, hq, rfl⟩ := List.mem_map.mp hp2
  exact mP_ok eo e (hp.2 q hq)
end
def lift : (n : Nat) → T n → T (n + 1)
  | 0, x => nomatch x
  | n + 1, x => mX (lift n) x
theorem lift_w : ∀ (n : Nat) (x : T n), wT (n + 1) (lift n x) = wT n x
  | 0, x => nomatch x
  | n + 1, x => mX_w (h := lift n) (lift_w n) x
theorem lift_c : ∀ (n : Nat) (x : T n), cT (n + 1) (lift n x) = cT n x
  | 0, x => nomatch x
  | n + 1, x => mX_c (h := lift n) (lift_c n) x
theorem lift_s : ∀ (n : Nat) (x : T n), sT (n + 1) (lift n x) = sT n x
  | 0, x => nomatch x
  | n + 1, x => funext fun s => mX_s (h := lift n) (f := cT n) (f' := cT (n + 1)) (lift_c n) (lift_s n) x s
theorem lift_ok : ∀ (n : Nat) (x : T n), okT n x → okT (n + 1) (lift n x)
  | 0, x, _ => nomatch x
  | n + 1, x, hx => mX_ok (h := lift n) (ok := okT n) (ok' := okT (n + 1)) (f := cT n) (f' := cT (n + 1)) (lift_ok n) (lift_c n) hx
/-- a text of at most seven levels as one of seven -/
theorem to7 : ∀ (k n : Nat), n + k = 7 → ∀ x : T n, okT n x → ∃ y : T 7, okT 7 y ∧ wT 7 y = wT n x ∧ cT 7 y = cT n x ∧ sT 7 y = sT n x
  | 0, n, e, x, hx => by
    have : n = 7 := by omega
    subst this
    exact ⟨x, hx, rfl, rfl, rfl⟩
  | k + 1, n, e, x, hx => by
    obtain ⟨y, h1, h2, h3, h4⟩ := to7 k (n + 1) (by omega) (lift n x) (lift_ok n x hx)
    exact ⟨y, h1, by rw [h2, lift_w], by rw [h3, lift_c], by rw [h4, lift_s]⟩
/-- read_round's reader at what is written -/
theorem round_reads {n : Nat} (hn : n ≤ 7) (x : T n) (hx : okT n x) : rdAt 6 true (wT n x) = .ok ([], cT n x, rowOf (cT n x) (sT n x)) := by
  obtain ⟨y, h1, h2, h3, h4⟩ := to7 (7 - n) n (by omega) x hx
  have h := read_T 6 y h1 true [] (fun c hc => nomatch hc) rfl
  rw [List.append_nil] at h
  rw [← h2, h, h3, h4]
theorem cT_big {n : Nat} (hn : n ≤ 7) (x : T n) (hx : okT n x) (hl : (wT n x).length ≤ 1400) : cT n x < 2 ^ 8500 := by
  obtain ⟨F, _⟩ := ok_at 6 true _ _ (round_reads hn x hx)
  obtain ⟨k, k1, k2, k3, k4⟩ := F.suf
  have k4' : cT n x ≤ 2 ^ (6 * k) := k4
  exact Nat.lt_of_le_of_lt k4' (Nat.pow_lt_pow_right (by decide) (by omega))
end Rt

set_option Elab.async false
set_option linter.all false
namespace Fm
/-! ### rounds, shown for ever -/
def at' (l : List Nat) (t : Nat) : Nat := l.getD (t % l.length) 0
def Same (a b : List Nat) : Prop := ∀ t, at' a t = at' b t
noncomputable def SameB (a b : List Nat) : Bool := @decide (Same a b) (Classical.propDecidable _)
theorem sameB {a b : List Nat} : SameB a b = true ↔ Same a b := by unfold SameB; simp
theorem sameB_false {a b : List Nat} : SameB a b = false ↔ ¬ Same a b := by unfold SameB; simp
theorem at_mod (l : List Nat) {m t : Nat} (h : l.length ∣ m) : at' l (t % m) = at' l t := by
  unfold at'
  rw [Nat.mod_mod_of_dvd t h]
theorem at_add (l : List Nat) (t k : Nat) : at' l (t + l.length * k) = at' l t := by
  unfold at'
  rw [Nat.add_mul_mod_self_left]
theorem same_upto {a b : List Nat} (ha : a ≠ []) (hb : b ≠ []) (h : ∀ t, t < a.length * b.length + 24 → at' a t = at' b t) : Same a b := fun t => by
  have h1 : 0 < a.length := List.length_pos_iff.mpr ha
  have h2 : 0 < b.length := List.length_pos_iff.mpr hb
  have hp : 0 < a.length * b.length := Nat.mul_pos h1 h2
  have := h (t % (a.length * b.length)) (by have := Nat.mod_lt t hp; omega)
  rwa [at_mod a (Nat.dvd_mul_right _ _), at_mod b (Nat.dvd_mul_left _ _)] at this
theorem Same.symm {a b : List Nat} (h : Same a b) : Same b a := fun t => (h t).symm
theorem Same.trans {a b c : List Nat} (h : Same a b) (k : Same b c) : Same a c := fun t => (h t).trans (k t)
theorem at_lt {l : List Nat} {t : Nat} (h : t < l.length) : at' l t = l.getD t 0 := by unfold at'; rw [Nat.mod_eq_of_lt h]
/-! ### periods -/
def Per (f : Nat → Nat) (s : Nat) : Prop := ∀ t, f (t + s) = f t
theorem Per.mul {f : Nat → Nat} {s : Nat} (h : Per f s) : ∀ (k t : Nat), f (t + s * k) = f t
  | 0, t => by rw [Nat.mul_zero, Nat.add_zero]
  | k + 1, t => by
    rw [Nat.mul_add, Nat.mul_one, ← Nat.add_assoc, h, Per.mul h k t]
theorem Per.mod {f : Nat → Nat} {s : Nat} (h : Per f s) (t : Nat) : f (t % s) = f t := by
  have e := Nat.mod_add_div t s
  have := h.mul (t / s) (t % s)
  rw [e] at this
  exact this.symm
theorem Per.gcd {f : Nat → Nat} : ∀ (s n : Nat), Per f s → Per f n → Per f (Nat.gcd s n) := by
  intro s n
  induction s, n using Nat.gcd.induction with
  | H0 n => intro _ h; rw [Nat.gcd_zero_left]; exact h
  | H1 m n hm ih =>
    intro h1 h2
    rw [Nat.gcd_rec]
    refine ih (fun t => ?_) h1
    have e : t + n % m + m * (n / m) = t + n := by have := Nat.mod_add_div n m; omega
    have := h1.mul (n / m) (t + n % m)
    rw [e, h2] at this
    exact this.symm
theorem per_len (l : List Nat) : Per (at' l) l.length := fun t => by
  have := at_add l t 1
  rwa [Nat.mul_one] at this
theorem take_len {l : List Nat} {k : Nat} (h : k ≤ l.length) : (l.take k).length = k := by rw [List.length_take]; omega
theorem at_take {l : List Nat} {k : Nat} (hk : 1 ≤ k) (h : k ≤ l.length) (t : Nat) : at' (l.take k) t = l.getD (t % k) 0 := by
  unfold at'
  rw [take_len h]
  have h2 := Nat.mod_lt t (show 0 < k by omega)
  rw [List.getD_eq_getElem?_getD, List.getD_eq_getElem?_getD, List.getElem?_take_of_lt h2]
theorem per_of_same {l : List Nat} {k : Nat} (hk : 1 ≤ k) (h : k ≤ l.length) (s : Same (l.take k) l) : Per (at' l) k := fun t => by
  rw [← s (t + k), ← s t]
  have := per_len (l.take k) t
  rwa [take_len h] at this
theorem same_of_per {l : List Nat} {k : Nat} (hk : 1 ≤ k) (h : k ≤ l.length) (p : Per (at' l) k) : Same (l.take k) l := fun t => by
  rw [at_take hk h, ← p.mod t]
  have h2 := Nat.mod_lt t (show 0 < k by omega)
  rw [at_lt (by omega)]
/-! ### the least round -/
noncomputable def perF (l : List Nat) : Nat → Nat → Nat
  | 0, k => k
  | f + 1, k => if SameB (l.take k) l = true then k else perF l f (k + 1)
noncomputable def per (l : List Nat) : Nat := perF l (l.length - 1) 1
noncomputable def lst (l : List Nat) : List Nat := l.take (per l)
theorem perF_spec (l : List Nat) : ∀ (f k : Nat), k + f = l.length → 1 ≤ k → k ≤ perF l f k ∧ perF l f k ≤ l.length ∧ Same (l.take (perF l f k)) l ∧ ∀ j, k ≤ j → j < perF l f k → ¬ Same (l.take j) l
  | 0, k, e, _ => by
    have e2 : k = l.length := by omega
    refine ⟨Nat.le_refl _, by show k ≤ _; omega, ?_, fun j h1 h2 => absurd h2 (by show ¬ j < k; omega)⟩
    show Same (l.take k) l
    rw [e2, List.take_length]
    exact fun _ => rfl
  | f + 1, k, e, hk => by
    unfold perF
    by_cases h : SameB (l.take k) l = true
    · rw [if_pos h]
      exact ⟨Nat.le_refl _, by omega, sameB.mp h, fun j h1 h2 => absurd h2 (by omega)⟩
    · rw [if_neg h]
      obtain ⟨h1, h2, h3, h4⟩ := perF_spec l f (k + 1) (by omega) (by omega)
      refine ⟨by omega, h2, h3, fun j h5 h6 => ?_⟩
      by_cases hj : j = k
      · rw [hj]; exact fun z => h (sameB.mpr z)
      · exact h4 j (by omega) h6
theorem per_spec {l : List Nat} (h : l ≠ []) : 1 ≤ per l ∧ per l ≤ l.length ∧ Same (lst l) l ∧ ∀ j, 1 ≤ j → j < per l → ¬ Same (l.take j) l := by
  have h1 : 0 < l.length := List.length_pos_iff.mpr h
  exact perF_spec l (l.length - 1) 1 (by omega) (by omega)
theorem per_uniq {l : List Nat} {k : Nat} (h : l ≠ []) (h1 : 1 ≤ k) (h2 : k ≤ l.length) (h3 : Same (l.take k) l) (h4 : ∀ j, 1 ≤ j → j < k → ¬ Same (l.take j) l) : k = per l := by
  obtain ⟨p1, p2, p3, p4⟩ := per_spec h
  rcases Nat.lt_trichotomy k (per l) with q | q | q
  · exact absurd h3 (p4 k h1 q)
  · exact q
  · exact absurd p3 (h4 (per l) p1 q)
theorem per_le_of {l : List Nat} {k : Nat} (h : l ≠ []) (h1 : 1 ≤ k) (h3 : Same (l.take k) l) : per l ≤ k := by
  obtain ⟨p1, p2, p3, p4⟩ := per_spec h
  by_cases q : per l ≤ k
  · exact q
  · exact absurd h3 (p4 k h1 (by omega))
theorem per_dvd {l : List Nat} (h : l ≠ []) : per l ∣ l.length := by
  obtain ⟨p1, p2, p3, p4⟩ := per_spec h
  have hp := per_of_same p1 p2 p3
  have hg := Per.gcd _ _ hp (per_len l)
  have g1 : 1 ≤ Nat.gcd (per l) l.length := Nat.gcd_pos_of_pos_left _ (by omega)
  have g2 : Nat.gcd (per l) l.length ≤ per l := Nat.gcd_le_left _ (by omega)
  have := per_le_of h g1 (same_of_per g1 (by omega) hg)
  have e : Nat.gcd (per l) l.length = per l := by omega
  rw [← e]
  exact Nat.gcd_dvd_right _ _
/-! ### a beginning, shown so many times -/
theorem rep_get (m : List Nat) : ∀ (q i : Nat), i < q * m.length → ((List.replicate q m).flatten)[i]? = m[i % m.length]?
  | 0, i, h => by simp at h
  | q + 1, i, h => by
    rw [List.replicate_succ, List.flatten_cons]
    by_cases hi : i < m.length
    · rw [List.getElem?_append_left hi, Nat.mod_eq_of_lt hi]
    · rw [List.getElem?_append_right (by omega), rep_get m q (i - m.length) (by rw [Nat.add_mul, Nat.one_mul] at h; omega)]
      have : (i - m.length) % m.length = i % m.length := by
        rw [← Nat.mod_eq_sub_mod (by omega)]
      rw [this]
theorem rep_len (m : List Nat) (q : Nat) : ((List.replicate q m).flatten).length = q * m.length := by
  rw [List.length_flatten, List.map_replicate, List.sum_replicate_nat]
def Rep (l : List Nat) (k : Nat) : Prop := (List.replicate (l.length / k) (l.take k)).flatten = l
theorem rep_iff {l : List Nat} {k : Nat} (h1 : 1 ≤ k) (h2 : k ≤ l.length) : Rep l k ↔ (k ∣ l.length ∧ Same (l.take k) l) := by
  constructor
  · intro h
    have hl := congrArg List.length h
    rw [rep_len, take_len h2] at hl
    have hd : k ∣ l.length := ⟨l.length / k, by rw [Nat.mul_comm]; exact hl.symm⟩
    refine ⟨hd, fun t => ?_⟩
    rw [at_take h1 h2]
    unfold at'
    have ht : t % l.length < l.length := Nat.mod_lt _ (by omega)
    have g := rep_get (l.take k) (l.length / k) (t % l.length) (by rw [take_len h2, hl]; exact ht)
    have h' : (List.replicate (l.length / k) (l.take k)).flatten = l := h
    rw [h', take_len h2, Nat.mod_mod_of_dvd t hd, List.getElem?_take_of_lt (Nat.mod_lt t (by omega))] at g
    rw [List.getD_eq_getElem?_getD, List.getD_eq_getElem?_getD, g]
  · rintro ⟨hd, s⟩
    have hq : l.length / k * k = l.length := Nat.div_mul_cancel hd
    apply List.ext_getElem?
    intro i
    by_cases hi : i < l.length
    · rw [rep_get _ _ _ (by rw [take_len h2, hq]; exact hi), take_len h2, List.getElem?_take_of_lt (Nat.mod_lt i (by omega))]
      have e := s i
      rw [at_take h1 h2, at_lt hi, List.getD_eq_getElem?_getD, List.getD_eq_getElem?_getD] at e
      have h3 : i % k < l.length := by have := Nat.mod_lt i (show 0 < k by omega); omega
      rw [List.getElem?_eq_getElem h3, List.getElem?_eq_getElem hi] at e ⊢
      exact congrArg some e
    · rw [List.getElem?_eq_none (by rw [rep_len, take_len h2, hq]; omega), List.getElem?_eq_none (by omega)]
/-- the first size at which the beginning, shown again and again, is the round, is that of the least round -/
theorem rep_least {l : List Nat} {k : Nat} (h : l ≠ []) (h1 : 1 ≤ k) (h2 : k ≤ l.length) (h3 : Rep l k) (h4 : ∀ j, 1 ≤ j → j < k → ¬ Rep l j) : k = per l := by
  obtain ⟨p1, p2, p3, p4⟩ := per_spec h
  have hr := (rep_iff h1 h2).mp h3
  have hp : Rep l (per l) := (rep_iff p1 p2).mpr ⟨per_dvd h, p3⟩
  have a : per l ≤ k := per_le_of h h1 hr.2
  by_cases e : per l = k
  · exact e.symm
  · exact absurd hp (h4 _ p1 (by omega))
theorem rep_last {l : List Nat} (h : l ≠ []) : Rep l l.length := by
  have h1 : 0 < l.length := List.length_pos_iff.mpr h
  exact (rep_iff (by omega) (Nat.le_refl _)).mpr ⟨Nat.dvd_refl _, by rw [List.take_length]; exact fun _ => rfl⟩
/-! ### turns -/
def rot (l : List Nat) (n : Nat) : List Nat := (List.range l.length).map fun i => at' l (i + n)
theorem rot_len (l : List Nat) (n : Nat) : (rot l n).length = l.length := by unfold rot; simp
theorem rot_get {l : List Nat} {n i : Nat} (h : i < l.length) : (rot l n)[i]? = some (at' l (i + n)) := by
  unfold rot
  rw [List.getElem?_map, List.getElem?_range h]
  rfl
theorem at_rot {l : List Nat} (h : l ≠ []) (n t : Nat) : at' (rot l n) t = at' l (t + n) := by
  have h1 : 0 < l.length := List.length_pos_iff.mpr h
  have h2 := Nat.mod_lt t h1
  show (rot l n).getD (t % (rot l n).length) 0 = _
  rw [rot_len, List.getD_eq_getElem?_getD, rot_get h2]
  show at' l (t % l.length + n) = _
  unfold at'
  rw [Nat.mod_add_mod]
theorem turn_eq {l : List Nat} (h : l ≠ []) (n : Nat) : l.drop (n % l.length) ++ l.take (n % l.length) = rot l n := by
  have h1 : 0 < l.length := List.length_pos_iff.mpr h
  have h2 := Nat.mod_lt n h1
  apply List.ext_getElem?
  intro i
  by_cases hi : i < l.length
  · rw [rot_get hi]
    by_cases hj : i < l.length - n % l.length
    · rw [List.getElem?_append_left (by rw [List.length_drop]; exact hj), List.getElem?_drop]
      have h3 : n % l.length + i < l.length := by omega
      rw [List.getElem?_eq_getElem h3]
      unfold at'
      have e : (i + n) % l.length = n % l.length + i := by
        rw [← Nat.add_mod_mod, Nat.add_comm i, Nat.mod_eq_of_lt h3]
      rw [e, List.getD_eq_getElem?_getD, List.getElem?_eq_getElem h3]
      rfl
    · rw [List.getElem?_append_right (by rw [List.length_drop]; omega), List.length_drop]
      have h3 : i - (l.length - n % l.length) < n % l.length := by omega
      have h4 : i - (l.length - n % l.length) < l.length := by omega
      rw [List.getElem?_take_of_lt h3, List.getElem?_eq_getElem h4]
      unfold at'
      have e : (i + n) % l.length = i - (l.length - n % l.length) := by
        rw [← Nat.add_mod_mod]
        have e2 : i + n % l.length = (i - (l.length - n % l.length)) + l.length := by omega
        rw [e2, Nat.add_mod_right, Nat.mod_eq_of_lt h4]
      rw [e, List.getD_eq_getElem?_getD, List.getElem?_eq_getElem h4]
      rfl
  · rw [List.getElem?_eq_none (by rw [List.length_append, List.length_drop, List.length_take]; omega), List.getElem?_eq_none (by rw [rot_len]; omega)]
/-! ### alike -/
theorem same_len {a b : List Nat} (ha : a ≠ []) (hb : b ≠ []) (s : Same a b) : per a = per b := by
  have key : ∀ {a b : List Nat}, a ≠ [] → b ≠ [] → Same a b → per b ≤ per a := by
    intro a b ha hb s
    obtain ⟨p1, p2, p3, p4⟩ := per_spec ha
    obtain ⟨q1, q2, q3, q4⟩ := per_spec hb
    have hp : Per (at' b) (per a) := fun t => by rw [← s, ← s]; exact per_of_same p1 p2 p3 t
    have hg := Per.gcd _ _ hp (per_len b)
    have hb1 : 0 < b.length := List.length_pos_iff.mpr hb
    have g1 : 1 ≤ Nat.gcd (per a) b.length := Nat.gcd_pos_of_pos_right _ hb1
    have g2 : Nat.gcd (per a) b.length ≤ per a := Nat.gcd_le_left _ (by omega)
    have g3 : Nat.gcd (per a) b.length ≤ b.length := Nat.gcd_le_right _ hb1
    have := per_le_of hb g1 (same_of_per g1 g3 hg)
    omega
  exact Nat.le_antisymm (key hb ha s.symm) (key ha hb s)
theorem lst_ne {a : List Nat} (ha : a ≠ []) : lst a ≠ [] := by
  obtain ⟨p1, p2, _, _⟩ := per_spec ha
  intro e
  have := congrArg List.length e
  unfold lst at this
  rw [take_len p2] at this
  simp at this
  omega
theorem lst_len {a : List Nat} (ha : a ≠ []) : (lst a).length = per a := take_len (per_spec ha).2.1
theorem eq_of_same {a b : List Nat} (hl : a.length = b.length) (s : Same a b) : a = b := by
  apply List.ext_getElem?
  intro i
  by_cases hi : i < a.length
  · have := s i
    rw [at_lt hi, at_lt (by omega), List.getD_eq_getElem?_getD, List.getD_eq_getElem?_getD, List.getElem?_eq_getElem hi, List.getElem?_eq_getElem (show i < b.length by omega)] at this
    rw [List.getElem?_eq_getElem hi, List.getElem?_eq_getElem (show i < b.length by omega)]
    exact congrArg some this
  · rw [List.getElem?_eq_none (by omega), List.getElem?_eq_none (by omega)]
theorem alike_iff {a b : List Nat} (ha : a ≠ []) (hb : b ≠ []) : lst a = lst b ↔ Same a b := by
  constructor
  · intro e
    have h1 := (per_spec ha).2.2.1
    have h2 := (per_spec hb).2.2.1
    rw [e] at h1
    exact h1.symm.trans h2
  · intro s
    refine eq_of_same ?_ (((per_spec ha).2.2.1.trans s).trans (per_spec hb).2.2.1.symm)
    rw [lst_len ha, lst_len hb, same_len ha hb s]
theorem rot_ne {l : List Nat} (h : l ≠ []) (n : Nat) : rot l n ≠ [] := by
  intro e
  have := congrArg List.length e
  rw [rot_len] at this
  exact h (List.length_eq_zero_iff.mp this)
theorem rot_same {a b : List Nat} (ha : a ≠ []) (hb : b ≠ []) (n : Nat) (s : Same a b) : Same (rot a n) (rot b n) := fun t => by
  rw [at_rot ha, at_rot hb]
  exact s _
theorem per_rot {l : List Nat} (h : l ≠ []) (n : Nat) : per (rot l n) = per l := by
  have key : ∀ (l : List Nat) (n : Nat), l ≠ [] → per (rot l n) ≤ per l := by
    intro l n h
    obtain ⟨p1, p2, p3, p4⟩ := per_spec h
    have hp := per_of_same p1 p2 p3
    have hp2 : Per (at' (rot l n)) (per l) := fun t => by
      rw [at_rot h, at_rot h, show t + per l + n = t + n + per l by omega]
      exact hp _
    exact per_le_of (rot_ne h n) p1 (same_of_per p1 (by rw [rot_len]; exact p2) hp2)
  refine Nat.le_antisymm (key l n h) ?_
  -- turned on to a whole number of rounds
  have h1 : 0 < l.length := List.length_pos_iff.mpr h
  have h2 := key (rot l n) (l.length * (n + 1) - n) (rot_ne h n)
  have e : rot (rot l n) (l.length * (n + 1) - n) = l := by
    refine eq_of_same (by rw [rot_len, rot_len]) fun t => ?_
    rw [at_rot (rot_ne h n), at_rot h]
    have h3 : n ≤ l.length * (n + 1) := Nat.le_trans (Nat.le_succ n) (Nat.le_mul_of_pos_left _ h1)
    rw [show t + (l.length * (n + 1) - n) + n = t + l.length * (n + 1) by omega, at_add]
  rw [e] at h2
  exact h2
theorem moment_iff {a b : List Nat} (ha : a ≠ []) (hb : b ≠ []) (n : Nat) : rot (lst b) n = lst a ↔ Same (rot b n) a := by
  have sb := (per_spec hb).2.2.1
  have sa := (per_spec ha).2.2.1
  have sr := rot_same (lst_ne hb) hb n sb
  constructor
  · intro e
    rw [e] at sr
    exact sr.symm.trans sa
  · intro s
    refine eq_of_same ?_ ((sr.trans s).trans sa.symm)
    rw [rot_len, lst_len hb, lst_len ha, ← same_len (rot_ne hb n) ha s, per_rot hb]
end Fm

set_option Elab.async false
set_option linter.all false
set_option maxRecDepth 100000
set_option maxHeartbeats 4000000
namespace Fk
open PySem PySem.Spec PyProof.Rows L2 Fg Fm
local macro_rules | `(tactic| walk_at "rd1") => `(tactic| first
  | with_reducible refine r_seq ?_
  | with_reducible refine r_asg ?_
  | with_reducible refine r_gname ?_
  | with_reducible refine r_gsub ?_
  | with_reducible refine r_ret ?_
  | with_reducible refine r_retN ?_
  | with_reducible refine r_next ?_
  | with_reducible refine r_drop ?_
  | with_reducible refine r_ifS ?_
  | with_reducible refine r_if ?_
  | with_reducible refine r_par ?_
  | with_reducible refine r_pair ?_
  | with_reducible refine r_test ?_
  | with_reducible refine r_tB ?_
  | with_reducible refine r_not ?_
  | with_reducible refine r_and ?_
  | with_reducible refine r_or ?_
  | with_reducible refine r_andV ?_
  | with_reducible refine r_orV ?_
  | with_reducible refine r_notV ?_
  | with_reducible refine r_nil ?_
  | with_reducible refine r_cons ?_
  | with_reducible refine r_call ?_
  | with_reducible refine r_callS ?_
  | with_reducible refine r_cb ?_
  | with_reducible refine r_then ?_
  | with_reducible refine r_tup ?_
  | with_reducible refine r_lst ?_
  | with_reducible refine r_sl ?_
  | with_reducible refine r_nopart ?_
  | with_reducible refine r_part ?_
  | with_reducible refine r_lcR1 ?_
  | with_reducible refine r_lcR2 ?_
  | with_reducible refine r_lcL ?_
  | with_reducible refine r_lcT ?_
  | with_reducible refine r_forR1 ?_
  | with_reducible refine r_forR2 ?_
  | with_reducible refine r_forL ?_
  | with_reducible refine r_forT ?_
  | with_reducible refine r_forE ?_
  | with_reducible refine r_strE ?_
  | ((with_reducible refine r_rng1 ?hc ?_); (case hc => omega))
  | ((with_reducible refine r_rng2 ?hc ?_); (case hc => omega))
  | ((with_reducible refine' r_refL ?hc ?_); (case hc => first | assumption | exact Evl.sq_of (by assumption)))
  | ((with_reducible refine' r_refT ?hc ?_); (case hc => first | assumption | exact Evl.st_of (by assumption)))
  | with_reducible refine r_op ?_
  | with_reducible refine r_un ?_
  | with_reducible refine r_chain ?_
  | ((with_reducible refine' r_var ?hv ?_); (case hv => exact rfl))
  | with_reducible refine r_cS ?_
  | with_reducible refine r_cs ?_
  | with_reducible refine r_c ?_
  | with_reducible refine r_yes ?_
  | with_reducible refine r_bm ?_
  | with_reducible refine r_bl ?_
  | with_reducible refine r_in ?_
  | with_reducible refine r_ty ?_
  | with_reducible refine r_I0 ?_
  | ((with_reducible refine r_I ?hc ?_); (case hc => first | assumption | (show (0 : Int) < _; decide) | exact Or.inr ⟨by decide, by decide⟩ | exact Or.inr ⟨by omega, by omega⟩ | exact Or.inl ⟨by decide, by decide⟩ | exact (show CDivW _ _ from ⟨by decide, by decide +kernel⟩) | exact (show CPowW _ _ from ⟨by decide, by decide +kernel⟩) | (show (0 : Int) < _; omega)))
  | with_reducible refine r_U ?_
  | with_reducible refine r_eqI ?_
  | with_reducible refine r_neI ?_
  | with_reducible refine r_eqS ?_
  | with_reducible refine r_neS ?_
  | with_reducible refine r_eqB ?_
  | with_reducible refine r_neB ?_
  | with_reducible refine r_niS ?_
  | with_reducible refine r_inSS ?_
  | ((with_reducible refine r_slSS ?hc ?_); (case hc => first | exact small (by omega) | exact small (by simp; omega)))
  | ((with_reducible refine r_lenS ?hc ?_); (case hc => first | exact small (by omega) | exact small (by simp; omega)))
  | ((with_reducible refine' r_lenL ?hc ?_); (case hc => first | assumption | exact Evl.sq_of (by assumption)))
  | ((with_reducible refine' r_lenT ?hc ?_); (case hc => first | assumption | exact Evl.st_of (by assumption)))
  | ((with_reducible refine' r_ixL ?h1 ?h2 ?h3 ?_); (case h1 => first | assumption | exact Evl.sq_of (by assumption) | exact Evl.sq_of upd_same); (case h2 => first | decide | omega); (case h3 => first | exact rfl | assumption))
  | ((with_reducible refine' r_ixT ?h1 ?h2 ?h3 ?_); (case h1 => first | assumption | exact Evl.st_of (by assumption)); (case h2 => first | decide | omega); (case h3 => first | exact rfl | assumption))
  | with_reducible refine r_T ?_
  | with_reducible refine r_notNn ?_
  | with_reducible refine r_notN_int ?_
  | with_reducible refine r_notN_str ?_
  | with_reducible refine r_notN_ref ?_
  | with_reducible refine r_isNn ?_
  | with_reducible refine r_isN_int ?_
  | with_reducible refine r_isN_str ?_
  | with_reducible refine r_isN_ref ?_
  | ((with_reducible refine' r_isi ?ht ?hk ?_); (case ht => first | exact .base (.int _) | exact .base (.bl _) | exact .base (.str _) | exact .base .non | exact .base (.lst (by assumption)) | exact .base (.tup (by assumption))); (case hk => first | exact kb_int_int | exact kb_int_bool | exact kb_int_str | exact kb_int_list | exact kb_int_tuple | exact kb_bool_int | exact kb_bool_bool | exact kb_bool_str | exact kb_bool_list | exact kb_bool_tuple | exact kb_str_int | exact kb_str_bool | exact kb_str_str | exact kb_str_list | exact kb_str_tuple | exact kb_NoneType_int | exact kb_NoneType_bool | exact kb_NoneType_str | exact kb_NoneType_list | exact kb_NoneType_tuple | exact kb_list_int | exact kb_list_bool | exact kb_list_str | exact kb_list_list | exact kb_list_tuple | exact kb_tuple_int | exact kb_tuple_bool | exact kb_tuple_str | exact kb_tuple_list | exact kb_tuple_tuple))
  | with_reducible refine r_F ?_
  | with_reducible refine r_nT ?_
  | with_reducible refine r_nF ?_
  | with_reducible refine r_mko ?_
  | with_reducible refine r_xf ?_
  | ((with_reducible refine' r_sum ?hc ?_); (case hc => first | assumption | exact Evl.sq_of (by assumption)))
  | ((with_reducible refine' r_setL ?h1 ?h2 ?h3 ?_); (case h1 => first | assumption | exact upd_same); (case h2 => first | decide | omega); (case h3 => first | (show _ < _; decide) | (simp; done)))
  | with_reducible refine r_int ?_
  | with_reducible refine r_abs ?_)
local macro_rules | `(tactic| walk_at "rd") => `(tactic| repeat (walk_at "rd1"))

section
variable {P : Program} {w : World} {K : PySem.W.Frag} {mg : Str → Option Value} {base : Heap}
def Sg (c : Nat) : Prop := c = 46 ∨ c = 103 ∨ c = 114 ∨ c = 119
def AllSg (l : List Nat) : Prop := ∀ c ∈ l, Sg c
def spSign : Sp := fun vs H Q _ => ∃ (c d : Addr) (ns : List Int), vs = [.ref d] ∧ Dr ns c d H ∧ ∀ (x : Nat) H', Sg x → Kp d H H' → Dr ns c d H' → Q (.str (S [x])) H'
abbrev s_l_sign : Stmt := topS 44
abbrev N_l_sign : List Str := ["_law_draw_here"]
theorem sc_l_sign : FnScope ["_law_draw_here"] ["_law_draw_here"] (defScope s_l_sign) := ⟨rfl, rfl, rfl, by decide +kernel, rfl, by decide +kernel, by decide +kernel⟩
theorem can_l_sign (T : Bi mg) (F : Defd K mg "_law_sign" s_l_sign ["_law_draw_here"]) (C_l_pick : Can P w K mg base L2.CX0 2 "_law_pick" ["_law_draw_here", "_law_many"] spPick) : Can P w K mg base L2.CX0 3 "_law_sign" ["_law_draw_here"] spSign := by
  refine can0 F sc_l_sign (fun vs H Q E h => ?_) (fun f cdv A outer s H vs Q E hr h => ⟨_, (pss_one (ps_ret (pe_ix ix_strS (pe_strL [46, 46, 46, 119, 119, 114, 103] (by decide +kernel)) (pe_can C_l_pick hr (by decide) rfl (pa_cons (pv 0) (pa_cons pe_int pa_nil))) (fun _ _ => rfl)))), ?_⟩)
  · obtain ⟨_, _, _, rfl, _⟩ := h
    rfl
  · obtain ⟨c, d, ns, rfl, hD, q⟩ := h
    walk_at "rd"
    refine ⟨c, d, 7, ns, rfl, hD, by decide, fun k H' h0 h1 kp hD' => ?_⟩
    have key : ∃ x, ([46, 46, 46, 119, 119, 114, 103] : List Nat)[k.toNat]? = some x ∧ Sg x := by
      obtain ⟨j, rfl⟩ : ∃ j : Nat, k = j := ⟨k.toNat, by omega⟩
      rw [Int.toNat_natCast]
      have hj : j < 7 := by omega
      match j, hj with
      | 0, _ => exact ⟨_, rfl, .inl rfl⟩
      | 1, _ => exact ⟨_, rfl, .inl rfl⟩
      | 2, _ => exact ⟨_, rfl, .inl rfl⟩
      | 3, _ => exact ⟨_, rfl, .inr (.inr (.inr rfl))⟩
      | 4, _ => exact ⟨_, rfl, .inr (.inr (.inr rfl))⟩
      | 5, _ => exact ⟨_, rfl, .inr (.inr (.inl rfl))⟩
      | 6, _ => exact ⟨_, rfl, .inr (.inl rfl)⟩
    obtain ⟨x, hx, hs⟩ := key
    exact r_ixSS (small (by decide)) h0 hx (q x H' hs kp hD')
def spRound : Sp := fun vs H Q _ => ∃ (c d : Addr) (m : Int) (ns : List Int), vs = [.ref d, .int m] ∧ Dr ns c d H ∧ 1 ≤ m ∧ m ≤ 1000 ∧ ∀ (l : List Nat) H', AllSg l → 1 ≤ l.length → l.length ≤ m.toNat → Kp d H H' → Dr ns c d H' → Q (.str (S l)) H'
theorem Dr.mut {ns : List Int} {c d D : Addr} {H : Hp} {o : HO} (h : Dr ns c d H) (nc : D ≠ c) (nd : D ≠ d) : Dr ns c d (upd H D o) := ⟨h.ne, by rw [upd_ne (Ne.symm nc)]; exact h.cells, by
  obtain ⟨i, n, big, cnt, b, e, r⟩ := h.ex
  exact ⟨i, n, big, cnt, b, by rw [upd_ne (Ne.symm nd)]; exact e, r⟩⟩
theorem Dr.nc {ns : List Int} {c d D : Addr} {H : Hp} (h : Dr ns c d H) (n : H D = none) : D ≠ c := fun z => by
  rw [z, h.cells] at n
  cases n
theorem Dr.nd {ns : List Int} {c d D : Addr} {H : Hp} (h : Dr ns c d H) (n : H D = none) : D ≠ d := fun z => by
  obtain ⟨i, m, big, cnt, b, e, r⟩ := h.ex
  rw [z, e] at n
  cases n
theorem Dr.some {ns : List Int} {c d : Addr} {H : Hp} (h : Dr ns c d H) : H d ≠ none := fun z => by
  obtain ⟨i, m, big, cnt, b, e, r⟩ := h.ex
  rw [e] at z
  cases z
abbrev s_l_round : Stmt := topS 45
abbrev N_l_round : List Str := ["_law_draw_here", "_law_most", "_law_turn"]
theorem sc_l_round : FnScope ["_law_draw_here", "_law_most", "_law_turn"] ["_law_draw_here", "_law_most"] (defScope s_l_round) := ⟨rfl, rfl, rfl, by decide +kernel, rfl, by decide +kernel, by decide +kernel⟩
theorem can_l_round (T : Bi mg) (F : Defd K mg "_law_round" s_l_round ["_law_draw_here", "_law_most"]) (C_l_pick : Can P w K mg base L2.CX0 2 "_law_pick" ["_law_draw_here", "_law_many"] spPick) (C_l_sign : Can P w K mg base L2.CX0 3 "_law_sign" ["_law_draw_here"] spSign) : Can P w K mg base L2.CX0 4 "_law_round" ["_law_draw_here", "_law_most"] spRound := by
  refine can0 F sc_l_round (fun vs H Q E h => ?_) (fun f cdv A outer s H vs Q E hr h => ⟨_, (pss_one (ps_ret (pe_bm PySem.F.plainAttrs_str PySem.F.slot_str_join PySem.F.type_str_join mt_joinS (pe_strL [] (by decide +kernel)) (pa_cons (pe_lc (own := [("_law_turn", 2)]) (g := gName 2) (tt := tYes) rfl sc_l_round.nd (pi_range1 rfl T.b_range (pa_cons (pe_op op_add pe_int (pe_can C_l_pick hr (by decide) rfl (pa_cons (pv 0) (pa_cons (pv 1) pa_nil)))) pa_nil)) (blkOk_by (N := N_l_round) (sc := defScope s_l_round) (by decide +kernel)) (fun _ _ _ _ _ => pg_name (i := 2) sc_l_round.nd rfl (Or.inl rfl)) (fun _ _ _ _ _ => pts_nil) (fun _ _ _ _ _ => (pe_can C_l_sign hr (by decide) rfl (pa_cons (pv 0) pa_nil)))) pa_nil)))), ?_⟩)
  · obtain ⟨_, _, _, _, rfl, _⟩ := h
    rfl
  · obtain ⟨c, d, m, ns, rfl, hD, hm1, hm2, q⟩ := h
    walk_at "rd"
    refine ⟨c, d, m, ns, rfl, hD, by omega, fun k H1 h0 h1 kp hD1 => ?_⟩
    walk_at "rd"
    refine lcR (fun D i acc H2 => D ≠ c ∧ D ≠ d ∧ Kp d H1 H2 ∧ Dr ns c d H2 ∧ ∃ l, acc = l.map (fun x => V.str (S [x])) ∧ AllSg l ∧ l.length = i) (fun _ => rfl) (fun D hD0 => ⟨hD1.nc hD0, hD1.nd hD0, Kp.new hD0, hD1.mut (hD1.nc hD0) (hD1.nd hD0), [], rfl, (fun _ h => by cases h), rfl⟩)
      (fun D i H2 acc hD0 hi e2 _ hJ => ?_) (fun D H2 acc hD0 e2 hJ => ?_)
    · obtain ⟨nc, nd, k2, hD2, l, rfl, hs, hl⟩ := hJ
      walk_at "rd"
      refine ⟨c, d, ns, rfl, hD2, fun x H3 hx k3 hD3 => ?_⟩
      walk_at "rd"
      refine lc_end (by omega) (by rw [List.length_map]; omega) (k3 _ _ nd e2) ⟨nc, nd, (k2.trans k3).mut hD0, hD3.mut nc nd, l ++ [x], by rw [List.map_append]; rfl, fun y hy => ?_, by rw [List.length_append, hl]; rfl⟩
      rcases List.mem_append.mp hy with hy | hy
      · exact hs y hy
      · rw [List.mem_singleton.mp hy]; exact hx
    · obtain ⟨nc, nd, k2, hD2, l, rfl, hs, hl⟩ := hJ
      walk_at "rd"
      exact r_joinC (Evl.sq_of e2) (by omega) (q l H2 hs (by omega) (by omega) (kp.trans k2) hD2)
theorem at_int {l : List Nat} (h : l ≠ []) (i : Nat) {n : Int} (hn : 0 ≤ n) : l[(((0 : Int) + (i : Int) + n) % (l.length : Int)).toNat]? = some (at' l (i + n.toNat)) := by
  have h1 : 0 < l.length := List.length_pos_iff.mpr h
  have e : (0 : Int) + (i : Int) + n = ((i + n.toNat : Nat) : Int) := by omega
  have e2 : (((i + n.toNat : Nat) : Int) % (l.length : Int)) = (((i + n.toNat) % l.length : Nat) : Int) := by omega
  rw [e, e2, Int.toNat_natCast]
  have h2 := Nat.mod_lt (i + n.toNat) h1
  unfold at'
  rw [List.getD_eq_getElem?_getD, List.getElem?_eq_getElem h2]
  rfl
theorem at_int0 {l : List Nat} (h : l ≠ []) (i : Nat) : l[(((0 : Int) + (i : Int)) % (l.length : Int)).toNat]? = some (at' l i) := by
  have := at_int h i (Int.le_refl 0)
  rw [Int.add_zero] at this
  exact this
theorem pos_len {l : List Nat} (h : l ≠ []) : 1 ≤ l.length := List.length_pos_iff.mpr h
theorem range_map {α : Type} (f : Nat → α) (i : Nat) : (List.range (i + 1)).map f = (List.range i).map f ++ [f i] := by
  rw [List.range_succ, List.map_append]; rfl
def spLater : Sp := fun vs H Q _ => ∃ (l : List Nat) (n : Int), vs = [.str (S l), .int n] ∧ l ≠ [] ∧ l.length ≤ 100 ∧ 0 ≤ n ∧ ∀ H', Ex H H' → Q (.str (S (rot l n.toNat))) H'
def spSame : Sp := fun vs H Q _ => ∃ (a b : List Nat), vs = [.str (S a), .str (S b)] ∧ a ≠ [] ∧ b ≠ [] ∧ a.length ≤ 100 ∧ b.length ≤ 100 ∧ Q (.bl (SameB a b)) H
def spLeast : Sp := fun vs H Q _ => ∃ (l : List Nat), vs = [.str (S l)] ∧ l ≠ [] ∧ l.length ≤ 100 ∧ Q (.str (S (lst l))) H
theorem take_ne {l : List Nat} {k : Nat} (h : l ≠ []) (hk : 1 ≤ k) : l.take k ≠ [] := by
  intro e
  have h2 := congrArg List.length e
  rw [List.length_take, List.length_nil] at h2
  have := pos_len h
  omega
def rots (m : List Nat) : List (List Nat) := (List.range m.length).map (rot m)
theorem rots_ne {m : List Nat} (h : m ≠ []) : rots m ≠ [] := by
  intro e
  have h2 := congrArg List.length e
  unfold rots at h2
  rw [List.length_map, List.length_range, List.length_nil] at h2
  have := pos_len h
  omega
def spLRhythm : Sp := fun vs H Q _ => ∃ (l : List Nat), vs = [.str (S l)] ∧ l ≠ [] ∧ l.length ≤ 24 ∧ ∀ z H', z ∈ rots (lst l) → (∀ y ∈ rots (lst l), ¬ y < z) → Ex H H' → Q (.str (S z)) H'
noncomputable def moms (a b : List Nat) : List Nat := (List.range (per b)).filter fun n => SameB (rot b n) a
def spLMoments : Sp := fun vs H Q _ => ∃ (a b : List Nat), vs = [.str (S a), .str (S b)] ∧ a ≠ [] ∧ b ≠ [] ∧ a.length ≤ 24 ∧ b.length ≤ 24 ∧ ∀ p H', Ex H H' → H' p = some (.tup ((moms a b).map fun (n : Nat) => V.int (n : Int))) → Q (.ref p) H'
theorem filt_yes {f : Nat → Bool} {i : Nat} (h : f i = true) : ((List.range (i + 1)).filter f) = ((List.range i).filter f) ++ [i] := by
  rw [List.range_succ, List.filter_append, List.filter_cons, if_pos h]; rfl
theorem filt_no {f : Nat → Bool} {i : Nat} (h : f i = false) : ((List.range (i + 1)).filter f) = ((List.range i).filter f) := by
  rw [List.range_succ, List.filter_append, List.filter_cons, if_neg (by rw [h]; decide)]
  show _ ++ [] = _
  rw [List.append_nil]
end
end Fk

set_option Elab.async false
set_option linter.all false
set_option maxRecDepth 100000
set_option maxHeartbeats 4000000
namespace Fk
open PySem PySem.Spec PyProof.Rows L2 Fg Fm
local macro_rules | `(tactic| walk_at "rd1") => `(tactic| first
  | with_reducible refine r_seq ?_
  | with_reducible refine r_asg ?_
  | with_reducible refine r_gname ?_
  | with_reducible refine r_gsub ?_
  | with_reducible refine r_ret ?_
  | with_reducible refine r_retN ?_
  | with_reducible refine r_next ?_
  | with_reducible refine r_drop ?_
  | with_reducible refine r_ifS ?_
  | with_reducible refine r_if ?_
  | with_reducible refine r_par ?_
  | with_reducible refine r_pair ?_
  | with_reducible refine r_test ?_
  | with_reducible refine r_tB ?_
  | with_reducible refine r_not ?_
  | with_reducible refine r_and ?_
  | with_reducible refine r_or ?_
  | with_reducible refine r_andV ?_
  | with_reducible refine r_orV ?_
  | with_reducible refine r_notV ?_
  | with_reducible refine r_nil ?_
  | with_reducible refine r_cons ?_
  | with_reducible refine r_call ?_
  | with_reducible refine r_callS ?_
  | with_reducible refine r_cb ?_
  | with_reducible refine r_then ?_
  | with_reducible refine r_tup ?_
  | with_reducible refine r_lst ?_
  | with_reducible refine r_sl ?_
  | with_reducible refine r_nopart ?_
  | with_reducible refine r_part ?_
  | with_reducible refine r_lcR1 ?_
  | with_reducible refine r_lcR2 ?_
  | with_reducible refine r_lcL ?_
  | with_reducible refine r_lcT ?_
  | with_reducible refine r_forR1 ?_
  | with_reducible refine r_forR2 ?_
  | with_reducible refine r_forL ?_
  | with_reducible refine r_forT ?_
  | with_reducible refine r_forE ?_
  | with_reducible refine r_strE ?_
  | ((with_reducible refine r_rng1 ?hc ?_); (case hc => omega))
  | ((with_reducible refine r_rng2 ?hc ?_); (case hc => omega))
  | ((with_reducible refine' r_refL ?hc ?_); (case hc => first | assumption | exact Evl.sq_of (by assumption)))
  | ((with_reducible refine' r_refT ?hc ?_); (case hc => first | assumption | exact Evl.st_of (by assumption)))
  | with_reducible refine r_op ?_
  | with_reducible refine r_un ?_
  | with_reducible refine r_chain ?_
  | ((with_reducible refine' r_var ?hv ?_); (case hv => exact rfl))
  | with_reducible refine r_cS ?_
  | with_reducible refine r_cs ?_
  | with_reducible refine r_c ?_
  | with_reducible refine r_yes ?_
  | with_reducible refine r_bm ?_
  | with_reducible refine r_bl ?_
  | with_reducible refine r_in ?_
  | with_reducible refine r_ty ?_
  | with_reducible refine r_I0 ?_
  | ((with_reducible refine r_I ?hc ?_); (case hc => first | assumption | (show (0 : Int) < _; decide) | exact Or.inr ⟨by decide, by decide⟩ | exact Or.inr ⟨by omega, by omega⟩ | exact Or.inl ⟨by decide, by decide⟩ | exact (show CDivW _ _ from ⟨by decide, by decide +kernel⟩) | exact (show CPowW _ _ from ⟨by decide, by decide +kernel⟩) | (show (0 : Int) < _; omega)))
  | with_reducible refine r_U ?_
  | with_reducible refine r_eqI ?_
  | with_reducible refine r_neI ?_
  | with_reducible refine r_eqS ?_
  | with_reducible refine r_neS ?_
  | with_reducible refine r_eqB ?_
  | with_reducible refine r_neB ?_
  | with_reducible refine r_niS ?_
  | with_reducible refine r_inSS ?_
  | ((with_reducible refine r_slSS ?hc ?_); (case hc => first | exact small (by omega) | exact small (by simp; omega)))
  | ((with_reducible refine r_lenS ?hc ?_); (case hc => first | exact small (by omega) | exact small (by simp; omega)))
  | ((with_reducible refine' r_lenL ?hc ?_); (case hc => first | assumption | exact Evl.sq_of (by assumption)))
  | ((with_reducible refine' r_lenT ?hc ?_); (case hc => first | assumption | exact Evl.st_of (by assumption)))
  | ((with_reducible refine' r_ixL ?h1 ?h2 ?h3 ?_); (case h1 => first | assumption | exact Evl.sq_of (by assumption) | exact Evl.sq_of upd_same); (case h2 => first | decide | omega); (case h3 => first | exact rfl | assumption))
  | ((with_reducible refine' r_ixT ?h1 ?h2 ?h3 ?_); (case h1 => first | assumption | exact Evl.st_of (by assumption)); (case h2 => first | decide | omega); (case h3 => first | exact rfl | assumption))
  | with_reducible refine r_T ?_
  | with_reducible refine r_notNn ?_
  | with_reducible refine r_notN_int ?_
  | with_reducible refine r_notN_str ?_
  | with_reducible refine r_notN_ref ?_
  | with_reducible refine r_isNn ?_
  | with_reducible refine r_isN_int ?_
  | with_reducible refine r_isN_str ?_
  | with_reducible refine r_isN_ref ?_
  | ((with_reducible refine' r_isi ?ht ?hk ?_); (case ht => first | exact .base (.int _) | exact .base (.bl _) | exact .base (.str _) | exact .base .non | exact .base (.lst (by assumption)) | exact .base (.tup (by assumption))); (case hk => first | exact kb_int_int | exact kb_int_bool | exact kb_int_str | exact kb_int_list | exact kb_int_tuple | exact kb_bool_int | exact kb_bool_bool | exact kb_bool_str | exact kb_bool_list | exact kb_bool_tuple | exact kb_str_int | exact kb_str_bool | exact kb_str_str | exact kb_str_list | exact kb_str_tuple | exact kb_NoneType_int | exact kb_NoneType_bool | exact kb_NoneType_str | exact kb_NoneType_list | exact kb_NoneType_tuple | exact kb_list_int | exact kb_list_bool | exact kb_list_str | exact kb_list_list | exact kb_list_tuple | exact kb_tuple_int | exact kb_tuple_bool | exact kb_tuple_str | exact kb_tuple_list | exact kb_tuple_tuple))
  | with_reducible refine r_F ?_
  | with_reducible refine r_nT ?_
  | with_reducible refine r_nF ?_
  | with_reducible refine r_mko ?_
  | with_reducible refine r_xf ?_
  | ((with_reducible refine' r_sum ?hc ?_); (case hc => first | assumption | exact Evl.sq_of (by assumption)))
  | ((with_reducible refine' r_setL ?h1 ?h2 ?h3 ?_); (case h1 => first | assumption | exact upd_same); (case h2 => first | decide | omega); (case h3 => first | (show _ < _; decide) | (simp; done)))
  | with_reducible refine r_int ?_
  | with_reducible refine r_abs ?_)
local macro_rules | `(tactic| walk_at "rd") => `(tactic| repeat (walk_at "rd1"))

section
variable {P : Program} {w : World} {K : PySem.W.Frag} {mg : Str → Option Value} {base : Heap}
theorem sg_app {a b : List Nat} (h : AllSg a) (k : AllSg b) : AllSg (a ++ b) := fun c hc => (List.mem_append.mp hc).elim (h c) (k c)
theorem sg_take {a : List Nat} (n : Nat) (h : AllSg a) : AllSg (a.take n) := fun c hc => h c (List.mem_of_mem_take hc)
theorem sg_drop {a : List Nat} (n : Nat) (h : AllSg a) : AllSg (a.drop n) := fun c hc => h c (List.mem_of_mem_drop hc)
theorem sg_one {c : Nat} (h : Sg c) : AllSg [c] := fun x hx => by rw [List.mem_singleton.mp hx]; exact h
theorem sg_rot {a : List Nat} (n : Nat) (h : AllSg a) (hn : a ≠ []) : AllSg (rot a n) := fun c hc => by
  unfold rot at hc
  obtain ⟨i, _, rfl⟩ := List.mem_map.mp hc
  have h1 := pos_len hn
  have h2 := Nat.mod_lt (i + n) (show 0 < a.length by omega)
  unfold at'
  rw [List.getD_eq_getElem?_getD, List.getElem?_eq_getElem h2]
  exact h _ (List.getElem_mem h2)
theorem sg_rep {a : List Nat} (n : Nat) (h : AllSg a) : AllSg (List.replicate n a).flatten := fun c hc => by
  obtain ⟨b, hb, hc⟩ := List.mem_flatten.mp hc
  rw [(List.mem_replicate.mp hb).2] at hc
  exact h c hc
def spBent : Sp := fun vs H Q _ => ∃ (c d : Addr) (l : List Nat) (ns : List Int), vs = [.ref d, .str (S l)] ∧ Dr ns c d H ∧ AllSg l ∧ 1 ≤ l.length ∧ l.length ≤ 24 ∧ ∀ (m : List Nat) H', AllSg m → 1 ≤ m.length → m.length ≤ l.length + 1 → Kp d H H' → Dr ns c d H' → Q (.str (S m)) H'
abbrev s_l_bent : Stmt := topS 46
abbrev N_l_bent : List Str := ["_law_draw_here", "_law_row", "_law_place", "_law_kind"]
theorem sc_l_bent : FnScope ["_law_draw_here", "_law_row", "_law_place", "_law_kind"] ["_law_draw_here", "_law_row"] (defScope s_l_bent) := ⟨rfl, rfl, rfl, by decide +kernel, rfl, by decide +kernel, by decide +kernel⟩
theorem can_l_bent (T : Bi mg) (F : Defd K mg "_law_bent" s_l_bent ["_law_draw_here", "_law_row"]) (C_l_pick : Can P w K mg base L2.CX0 2 "_law_pick" ["_law_draw_here", "_law_many"] spPick) (C_l_sign : Can P w K mg base L2.CX0 3 "_law_sign" ["_law_draw_here"] spSign) : Can P w K mg base L2.CX0 4 "_law_bent" ["_law_draw_here", "_law_row"] spBent := by
  refine can0 F sc_l_bent (fun vs H Q E h => ?_) (fun f cdv A outer s H vs Q E hr h => ⟨_, (pss_cons (ps_set (i := 2) sc_l_bent.nd rfl (by first | exact Or.inl rfl | exact Or.inr rfl) (pe_can C_l_pick hr (by decide) rfl (pa_cons (pv 0) (pa_cons (pe_callB call_lenS (by rfl) T.b_len boot_len (pa_cons (pv 1) pa_nil)) pa_nil))))
  (pss_cons (ps_set (i := 3) sc_l_bent.nd rfl (by first | exact Or.inl rfl | exact Or.inr rfl) (pe_can C_l_pick hr (by decide) rfl (pa_cons (pv 0) (pa_cons pe_int pa_nil))))
  (Evl.pss_cut (ps_if (PW.pt (pw_and (pt_cmpR op_eq (pv 3) pe_int (nomark _)) (pw_and1 (pt_cmpR op_gt (pe_callB call_lenS (by rfl) T.b_len boot_len (pa_cons (pv 1) pa_nil)) pe_int (nomark _))))) (pss_one (ps_ret (pe_op op_catS (pe_slice sl_strS (pv 1) po_none (po_some (pv 2))) (pe_slice sl_strS (pv 1) (po_some (pe_op op_add (pv 2) pe_int)) po_none)))) pss_nil)
  (pss_cons (ps_if (pt_cmpR op_eq (pv 3) pe_int (nomark _)) (pss_one (ps_ret (pe_op op_catS (pe_op op_catS (pe_slice sl_strS (pv 1) po_none (po_some (pv 2))) (pe_can C_l_sign hr (by decide) rfl (pa_cons (pv 0) pa_nil))) (pe_slice sl_strS (pv 1) (po_some (pv 2)) po_none)))) pss_nil)
  (pss_one (ps_ret (pe_op op_catS (pe_op op_catS (pe_slice sl_strS (pv 1) po_none (po_some (pv 2))) (pe_can C_l_sign hr (by decide) rfl (pa_cons (pv 0) pa_nil))) (pe_slice sl_strS (pv 1) (po_some (pe_op op_add (pv 2) pe_int)) po_none)))))))), ?_⟩)
  · obtain ⟨_, _, _, _, rfl, _⟩ := h
    rfl
  · obtain ⟨c, d, l, ns, rfl, hD, hs, h1, h2, q⟩ := h
    walk_at "rd"
    refine ⟨c, d, _, ns, rfl, hD, by omega, fun k H1 k0 k1 kp1 hD1 => ?_⟩
    walk_at "rd"
    refine ⟨c, d, _, ns, rfl, hD1, by omega, fun j H2 j0 j1 kp2 hD2 => ?_⟩
    have kp := kp1.trans kp2
    walk_at "rd"
    have last : ∀ x H3, Sg x → Kp d H2 H3 → Dr ns c d H3 → Q (.str (S (l.take k.toNat ++ [x] ++ l.drop (k + 1).toNat))) H3 := fun x H3 hx kp3 hD3 => by
      refine q _ H3 (sg_app (sg_app (sg_take _ hs) (sg_one hx)) (sg_drop _ hs)) ?_ ?_ (kp.trans kp3) hD3
      · rw [List.length_append, List.length_append, List.length_singleton]; omega
      · rw [List.length_append, List.length_append, List.length_singleton, List.length_take, List.length_drop]; omega
    refine r_cut (Mid := fun σ' H' => σ' = [some (.ref d), some (.str (S l)), some (.int k), some (.int j)] ∧ H' = H2) ?_ ?_
    · walk_at "rd"
      refine r_ite (fun h3 => ?_) (fun h3 => ?_)
      · walk_at "rd"
        refine r_ite (fun h4 => ?_) (fun h4 => ?_)
        · walk_at "rd"
          rw [cut_to (by omega), cut_from (by omega)]
          refine r_catS (small (by rw [List.length_take, List.length_drop]; omega)) ?_
          refine q _ H2 (sg_app (sg_take _ hs) (sg_drop _ hs)) ?_ ?_ kp hD2
          · rw [List.length_append, List.length_take, List.length_drop]; omega
          · rw [List.length_append, List.length_take, List.length_drop]; omega
        · walk_at "rd"
          exact ⟨rfl, rfl⟩
      · walk_at "rd"
        exact ⟨rfl, rfl⟩
    rintro σ' H' ⟨rfl, rfl⟩
    walk_at "rd"
    refine r_ite (fun h4 => ?_) (fun h4 => ?_)
    · walk_at "rd"
      refine ⟨c, d, ns, rfl, hD2, fun x H3 hx kp3 hD3 => ?_⟩
      rw [cut_to (by omega)]
      refine r_catS (small (by rw [List.length_take, List.length_singleton]; omega)) ?_
      walk_at "rd"
      rw [cut_from (by omega)]
      refine r_catS (small (by rw [List.length_append, List.length_take, List.length_drop, List.length_singleton]; omega)) ?_
      refine q _ H3 (sg_app (sg_app (sg_take _ hs) (sg_one hx)) (sg_drop _ hs)) ?_ ?_ (kp.trans kp3) hD3
      · rw [List.length_append, List.length_append, List.length_singleton]; omega
      · rw [List.length_append, List.length_append, List.length_singleton, List.length_take, List.length_drop]; omega
    · walk_at "rd"
      refine ⟨c, d, ns, rfl, hD2, fun x H3 hx kp3 hD3 => ?_⟩
      rw [cut_to (by omega)]
      refine r_catS (small (by rw [List.length_take, List.length_singleton]; omega)) ?_
      walk_at "rd"
      rw [cut_from (by omega)]
      refine r_catS (small (by rw [List.length_append, List.length_take, List.length_drop, List.length_singleton]; omega)) ?_
      exact last x H3 hx kp3 hD3
def spNumber : Sp := fun vs H Q _ => ∃ (c d : Addr) (ns : List Int), vs = [.ref d] ∧ Dr ns c d H ∧ ∀ (k : Int) H', 0 ≤ k → Kp d H H' → Dr ns c d H' → Q (.int k) H'
structure Rnd (l : List Nat) : Prop where
  sg : AllSg l
  pos : 1 ≤ l.length
  le : l.length ≤ 24
theorem Rnd.ne {l : List Nat} (h : Rnd l) : l ≠ [] := fun e => by
  have := h.pos
  rw [e] at this
  simp at this
def spRounds : Sp := fun vs H Q _ => ∃ (c d : Addr) (ns : List Int), vs = [.ref d] ∧ Dr ns c d H ∧ ∀ (a b : List Nat) p H', Rnd a → Rnd b → Kp d H H' → Dr ns c d H' → p ≠ d → H' p = some (.lst [.str (S a), .str (S b)]) → Q (.ref p) H'
theorem rep_round {l : List Nat} {k : Int} (h : AllSg l) (h1 : 1 ≤ l.length) (h6 : l.length ≤ 6) (k0 : 0 ≤ k) (k1 : k < 24 / (l.length : Int) ∨ k = 0) : l.length * (1 + k).toNat ≤ 24 ∧ Rnd (List.replicate (1 + k).toNat l).flatten := by
  have key : l.length * (1 + k).toNat ≤ 24 := by
    rcases k1 with k1 | k1
    · have h2 : (1 + k) ≤ 24 / (l.length : Int) := by omega
      have h3 := (Int.le_ediv_iff_mul_le (show (0 : Int) < (l.length : Int) by omega)).mp h2
      have h4 : (((1 + k).toNat * l.length : Nat) : Int) ≤ 24 := by
        rw [Int.natCast_mul, Int.toNat_of_nonneg (by omega)]
        exact h3
      rw [Nat.mul_comm]
      omega
    · rw [k1]
      show l.length * 1 ≤ 24
      omega
  refine ⟨key, sg_rep _ h, ?_, ?_⟩
  · rw [rep_len]
    exact Nat.mul_pos (by omega) (by omega)
  · rw [rep_len, Nat.mul_comm]
    exact key
end
end Fk

set_option Elab.async false
set_option linter.all false
set_option maxRecDepth 100000
set_option maxHeartbeats 4000000
namespace Fk
open PySem PySem.Spec PyProof.Rows L2 Fg Fm
local macro_rules | `(tactic| walk_at "rd1") => `(tactic| first
  | with_reducible refine r_seq ?_
  | with_reducible refine r_asg ?_
  | with_reducible refine r_gname ?_
  | with_reducible refine r_gsub ?_
  | with_reducible refine r_ret ?_
  | with_reducible refine r_retN ?_
  | with_reducible refine r_next ?_
  | with_reducible refine r_drop ?_
  | with_reducible refine r_ifS ?_
  | with_reducible refine r_if ?_
  | with_reducible refine r_par ?_
  | with_reducible refine r_pair ?_
  | with_reducible refine r_test ?_
  | with_reducible refine r_tB ?_
  | with_reducible refine r_not ?_
  | with_reducible refine r_and ?_
  | with_reducible refine r_or ?_
  | with_reducible refine r_andV ?_
  | with_reducible refine r_orV ?_
  | with_reducible refine r_notV ?_
  | with_reducible refine r_nil ?_
  | with_reducible refine r_cons ?_
  | with_reducible refine r_call ?_
  | with_reducible refine r_callS ?_
  | with_reducible refine r_cb ?_
  | with_reducible refine r_then ?_
  | with_reducible refine r_tup ?_
  | with_reducible refine r_lst ?_
  | with_reducible refine r_sl ?_
  | with_reducible refine r_nopart ?_
  | with_reducible refine r_part ?_
  | with_reducible refine r_lcR1 ?_
  | with_reducible refine r_lcR2 ?_
  | with_reducible refine r_lcL ?_
  | with_reducible refine r_lcT ?_
  | with_reducible refine r_forR1 ?_
  | with_reducible refine r_forR2 ?_
  | with_reducible refine r_forL ?_
  | with_reducible refine r_forT ?_
  | with_reducible refine r_forE ?_
  | with_reducible refine r_strE ?_
  | ((with_reducible refine r_rng1 ?hc ?_); (case hc => omega))
  | ((with_reducible refine r_rng2 ?hc ?_); (case hc => omega))
  | ((with_reducible refine' r_refL ?hc ?_); (case hc => first | assumption | exact Evl.sq_of (by assumption)))
  | ((with_reducible refine' r_refT ?hc ?_); (case hc => first | assumption | exact Evl.st_of (by assumption)))
  | with_reducible refine r_op ?_
  | with_reducible refine r_un ?_
  | with_reducible refine r_chain ?_
  | ((with_reducible refine' r_var ?hv ?_); (case hv => exact rfl))
  | with_reducible refine r_cS ?_
  | with_reducible refine r_cs ?_
  | with_reducible refine r_c ?_
  | with_reducible refine r_yes ?_
  | with_reducible refine r_bm ?_
  | with_reducible refine r_bl ?_
  | with_reducible refine r_in ?_
  | with_reducible refine r_ty ?_
  | with_reducible refine r_I0 ?_
  | ((with_reducible refine r_I ?hc ?_); (case hc => first | assumption | (show (0 : Int) < _; decide) | exact Or.inr ⟨by decide, by decide⟩ | exact Or.inr ⟨by omega, by omega⟩ | exact Or.inl ⟨by decide, by decide⟩ | exact (show CDivW _ _ from ⟨by decide, by decide +kernel⟩) | exact (show CPowW _ _ from ⟨by decide, by decide +kernel⟩) | (show (0 : Int) < _; omega)))
  | with_reducible refine r_U ?_
  | with_reducible refine r_eqI ?_
  | with_reducible refine r_neI ?_
  | with_reducible refine r_eqS ?_
  | with_reducible refine r_neS ?_
  | with_reducible refine r_eqB ?_
  | with_reducible refine r_neB ?_
  | with_reducible refine r_niS ?_
  | with_reducible refine r_inSS ?_
  | ((with_reducible refine r_slSS ?hc ?_); (case hc => first | exact small (by omega) | exact small (by simp; omega)))
  | ((with_reducible refine r_lenS ?hc ?_); (case hc => first | exact small (by omega) | exact small (by simp; omega)))
  | ((with_reducible refine' r_lenL ?hc ?_); (case hc => first | assumption | exact Evl.sq_of (by assumption)))
  | ((with_reducible refine' r_lenT ?hc ?_); (case hc => first | assumption | exact Evl.st_of (by assumption)))
  | ((with_reducible refine' r_ixL ?h1 ?h2 ?h3 ?_); (case h1 => first | assumption | exact Evl.sq_of (by assumption) | exact Evl.sq_of upd_same); (case h2 => first | decide | omega); (case h3 => first | exact rfl | assumption))
  | ((with_reducible refine' r_ixT ?h1 ?h2 ?h3 ?_); (case h1 => first | assumption | exact Evl.st_of (by assumption)); (case h2 => first | decide | omega); (case h3 => first | exact rfl | assumption))
  | with_reducible refine r_T ?_
  | with_reducible refine r_notNn ?_
  | with_reducible refine r_notN_int ?_
  | with_reducible refine r_notN_str ?_
  | with_reducible refine r_notN_ref ?_
  | with_reducible refine r_isNn ?_
  | with_reducible refine r_isN_int ?_
  | with_reducible refine r_isN_str ?_
  | with_reducible refine r_isN_ref ?_
  | ((with_reducible refine' r_isi ?ht ?hk ?_); (case ht => first | exact .base (.int _) | exact .base (.bl _) | exact .base (.str _) | exact .base .non | exact .base (.lst (by assumption)) | exact .base (.tup (by assumption))); (case hk => first | exact kb_int_int | exact kb_int_bool | exact kb_int_str | exact kb_int_list | exact kb_int_tuple | exact kb_bool_int | exact kb_bool_bool | exact kb_bool_str | exact kb_bool_list | exact kb_bool_tuple | exact kb_str_int | exact kb_str_bool | exact kb_str_str | exact kb_str_list | exact kb_str_tuple | exact kb_NoneType_int | exact kb_NoneType_bool | exact kb_NoneType_str | exact kb_NoneType_list | exact kb_NoneType_tuple | exact kb_list_int | exact kb_list_bool | exact kb_list_str | exact kb_list_list | exact kb_list_tuple | exact kb_tuple_int | exact kb_tuple_bool | exact kb_tuple_str | exact kb_tuple_list | exact kb_tuple_tuple))
  | with_reducible refine r_F ?_
  | with_reducible refine r_nT ?_
  | with_reducible refine r_nF ?_
  | with_reducible refine r_mko ?_
  | with_reducible refine r_xf ?_
  | ((with_reducible refine' r_sum ?hc ?_); (case hc => first | assumption | exact Evl.sq_of (by assumption)))
  | ((with_reducible refine' r_setL ?h1 ?h2 ?h3 ?_); (case h1 => first | assumption | exact upd_same); (case h2 => first | decide | omega); (case h3 => first | (show _ < _; decide) | (simp; done)))
  | with_reducible refine r_int ?_
  | with_reducible refine r_abs ?_)
local macro_rules | `(tactic| walk_at "rd") => `(tactic| repeat (walk_at "rd1"))

section
variable {P : Program} {w : World} {K : PySem.W.Frag} {mg : Str → Option Value} {base : Heap}
theorem sgl7 (c : Nat) : c ∈ SGL ↔ Sg c := by unfold SGL Sg; simp
def FirstBad (l : List Nat) (i : Nat) : Prop := ∃ c, l[i]? = some c ∧ ¬ Sg c ∧ ∀ j c, j < i → l[j]? = some c → Sg c
def spWrong : Sp := fun vs H Q _ => ∃ l : List Nat, vs = [.str (S l)] ∧ (∀ (i : Nat) H', FirstBad l i → Ex H H' → Q (.int (i : Int)) H') ∧ ∀ H', AllSg l → Ex H H' → Q .non H'
abbrev s_wrong_sign : Stmt := topS 15
abbrev N_wrong_sign : List Str := ["text", "at", "char"]
theorem sc_wrong_sign : FnScope ["text", "at", "char"] ["text"] (defScope s_wrong_sign) := ⟨rfl, rfl, rfl, by decide +kernel, rfl, by decide +kernel, by decide +kernel⟩
theorem can_wrong_sign (T : Bi mg) (F : Defd K mg "wrong_sign" s_wrong_sign ["text"]) (c_SIGNS : ∃ u, mg "SIGNS" = some u ∧ RelV (.str (S SGL)) u) : Can P w K mg base L2.CX0 1 "wrong_sign" ["text"] spWrong := by
  refine can0 F sc_wrong_sign (fun vs H Q E h => ?_) (fun f cdv A outer s H vs Q E hr h => ⟨_, (pss_cons (ps_for PassesOwn.never rfl (pi_enumS (by rfl) T.b_enumerate (pa_cons (pv 0) pa_nil)) (pg_tup rfl (pgs_cons (pg_name (i := 1) sc_wrong_sign.nd rfl (by first | exact Or.inl rfl | exact Or.inr rfl)) (pgs_cons (pg_name (i := 2) sc_wrong_sign.nd rfl (by first | exact Or.inl rfl | exact Or.inr rfl)) pgs_nil)))
    (pss_one (ps_if (pt_cmpR op_niS (pv 2) (C8.pe_gc rfl c_SIGNS) (by rfl)) (pss_one (ps_ret (pv 1))) pss_nil)))
  (pss_one (ps_ret pe_non))), ?_⟩)
  · obtain ⟨_, rfl, _⟩ := h
    rfl
  · obtain ⟨l, rfl, q1, q2⟩ := h
    walk_at "rd"
    refine forE (fun i σ' H' => ∃ x y, σ' = [some (.str (S l)), x, y] ∧ Ex H H' ∧ ∀ j c, j < i → l[j]? = some c → Sg c) ⟨none, none, rfl, Evl.Ex.refl H, fun j c h => by omega⟩ (fun i c σ' H' T0 hc hJ hT => ?_) (fun σ' H' hJ => ?_)
    · obtain ⟨x, y, rfl, ex, hJ⟩ := hJ
      have ex2 := ex.trans (Evl.Ex.new (o := .tup [V.int (i : Nat), V.str (S [c])]) hT)
      refine r_gtup2 (Evl.st_of upd_same) ?_
      walk_at "rd"
      refine r_iteN (fun h => ?_) (fun h => ?_)
      · walk_at "rd"
        exact q1 i _ ⟨c, hc, fun z => h ((sgl7 c).mpr z), hJ⟩ ex2
      · walk_at "rd"
        refine ⟨_, _, rfl, ex2, fun j c2 hj hc2 => ?_⟩
        by_cases e : j = i
        · rw [e, hc] at hc2
          injection hc2 with e2
          rw [← e2]
          exact (sgl7 c).mp h
        · exact hJ j c2 (by omega) hc2
    · obtain ⟨x, y, rfl, ex, hJ⟩ := hJ
      walk_at "rd"
      refine q2 H' (fun c hc => ?_) ex
      obtain ⟨j, hj⟩ := List.getElem?_of_mem hc
      exact hJ j c (lt_of_get hj) hj
def NotStr (H : Hp) (x : V) : Prop := x = .non ∨ (∃ b, x = .bl b) ∨ (∃ i, x = .int i) ∨ (∃ a xs, x = .ref a ∧ H a = some (.lst xs)) ∨ (∃ a xs, x = .ref a ∧ H a = some (.tup xs))
theorem NotStr.ex {H H' : Hp} {x : V} (h : NotStr H x) (e : Ex H H') : NotStr H' x := by
  rcases h with h | h | h | ⟨a, xs, h1, h2⟩ | ⟨a, xs, h1, h2⟩
  · exact .inl h
  · exact .inr (.inl h)
  · exact .inr (.inr (.inl h))
  · exact .inr (.inr (.inr (.inl ⟨a, xs, h1, e _ _ h2⟩)))
  · exact .inr (.inr (.inr (.inr ⟨a, xs, h1, e _ _ h2⟩)))
theorem NotStr.ty {H : Hp} {x : V} (h : NotStr H x) : ∃ m, TyX K H x (.type m) ∧ kitB m "str" = some false := by
  rcases h with rfl | ⟨b, rfl⟩ | ⟨i, rfl⟩ | ⟨a, xs, rfl, h2⟩ | ⟨a, xs, rfl, h2⟩
  · exact ⟨_, .base .non, kb_NoneType_str⟩
  · exact ⟨_, .base (.bl b), kb_bool_str⟩
  · exact ⟨_, .base (.int i), kb_int_str⟩
  · exact ⟨_, .base (.lst h2), kb_list_str⟩
  · exact ⟨_, .base (.tup h2), kb_tuple_str⟩
def BadRd (H : Hp) (x : V) (n : Int) : Prop := (n = -1 ∧ (NotStr H x ∨ ∃ l, x = .str (S l) ∧ l.length ≤ 1000 ∧ (l.length = 0 ∨ 24 < l.length))) ∨ ∃ l i, x = .str (S l) ∧ 1 ≤ l.length ∧ l.length ≤ 24 ∧ FirstBad l i ∧ n = (i : Int)
theorem BadRd.ex {H H' : Hp} {x : V} {n : Int} (h : BadRd H x n) (e : Ex H H') : BadRd H' x n := by
  rcases h with ⟨h1, h2⟩ | h
  · exact .inl ⟨h1, h2.imp (fun z => z.ex e) id⟩
  · exact .inr h
/-- a thing that is passed as a round: it is one, or the error is wished for -/
def RdArg (C : Addr) (H : Hp) (x : V) (E : XK) (ok : List Nat → Prop) : Prop := (∃ l, x = .str (S l) ∧ Rnd l ∧ ok l) ∨ ∃ n, BadRd H x n ∧ Wish C "number" (.int n) H E
def spCheck (C : Addr) : Sp := fun vs H Q E => ∃ x, vs = [x] ∧ RdArg C H x E fun _ => ∀ H', Ex H H' → Q .non H'
theorem notBad {l : List Nat} {i : Nat} (h : AllSg l) (k : FirstBad l i) : False := by
  obtain ⟨c, h1, h2, _⟩ := k
  exact h2 (h c (List.mem_of_getElem? h1))
abbrev s_check_round : Stmt := topS 16
abbrev N_check_round : List Str := ["row", "at"]
theorem sc_check_round : FnScope ["row", "at"] ["row"] (defScope s_check_round) := ⟨rfl, rfl, rfl, by decide +kernel, rfl, by decide +kernel, by decide +kernel⟩
theorem can_check_round (T : Bi mg) (F : Defd K mg "check_round" s_check_round ["row"]) (c_MOST_BEATS : ∃ u, mg "MOST_BEATS" = some u ∧ RelV (.int 24) u) {A_BadRound : Addr} (E_BadRound : Err P w K mg base "BadRound" A_BadRound "number") (C_wrong_sign : Can P w K mg base L2.CX0 1 "wrong_sign" ["text"] spWrong) : Can P w K mg base (L2.CX P w) 3 "check_round" ["row"] (spCheck A_BadRound) := by
  refine canX F sc_check_round (fun vs H Q E h => ?_) (fun f cdv A outer s H vs Q E hr h => ⟨_, (pss_cons (ps_if (PW.pt (pw_or (pt_not (pt_val (pe_callB call_isi (by rfl) T.b_isinstance boot_isinstance (pa_cons (pv 0) (pa_cons (pe_bltn (v := .ty "str") (by rfl) T.b_str boot_str rfl) pa_nil))))) (pw_or1 (pt_not (pt_chain op_le op_le pe_int (pe_callB call_lenS (by rfl) T.b_len boot_len (pa_cons (pv 0) pa_nil)) (C8.pe_gc rfl c_MOST_BEATS)))))) (pss_one (ps_raise rfl (takes_of rfl rfl rfl rfl) (pmk_err E_BadRound hr (by decide) rfl (pa_cons (pe_un un_neg pe_int) pa_nil)))) pss_nil)
  (pss_cons (ps_set (i := 1) sc_check_round.nd rfl (by first | exact Or.inl rfl | exact Or.inr rfl) (pe_can C_wrong_sign hr (by decide) rfl (pa_cons (pv 0) pa_nil)))
  (pss_one (ps_if (pt_cmpR op_notN1 (pv 1) pe_non (nomark _)) (pss_one (ps_raise rfl (takes_of rfl rfl rfl rfl) (pmk_err E_BadRound hr (by decide) rfl (pa_cons (pv 1) pa_nil)))) pss_nil)))), ?_⟩)
  · obtain ⟨_, rfl, _⟩ := h
    rfl
  · obtain ⟨x, rfl, h⟩ := h
    rcases h with ⟨l, rfl, hl, q⟩ | ⟨n, hb, wi⟩
    · have h1 := hl.pos
      have h2 := hl.le
      walk_at "rd"
      refine r_ite (fun _ => ?_) (fun h => absurd h (by omega))
      walk_at "rd"
      refine r_iteN (fun h => absurd h (by omega)) (fun _ => ?_)
      walk_at "rd"
      refine ⟨l, rfl, fun i H' hi _ => (notBad hl.sg hi).elim, fun H' _ ex => ?_⟩
      walk_at "rd"
      exact q H' ex
    · rcases hb with ⟨rfl, hb | ⟨l, rfl, l1, l2⟩⟩ | ⟨l, i, rfl, l1, l2, hi, rfl⟩
      · obtain ⟨m, hm, hk⟩ := hb.ty
        walk_at "rd"
        refine r_isi hm hk ?_
        walk_at "rd"
        exact r_mk wi
      · walk_at "rd"
        refine r_ite (fun h3 => ?_) (fun h3 => ?_)
        · walk_at "rd"
          refine r_iteN (fun h4 => ?_) (fun h4 => absurd h4 (by omega))
          walk_at "rd"
          exact r_mk wi
        · walk_at "rd"
          exact r_mk wi
      · walk_at "rd"
        refine r_ite (fun _ => ?_) (fun h => absurd h (by omega))
        walk_at "rd"
        refine r_iteN (fun h => absurd h (by omega)) (fun _ => ?_)
        walk_at "rd"
        refine ⟨l, rfl, fun j H' hj ex => ?_, fun H' hs _ => (notBad hs hi).elim⟩
        have e : j = i := by
          obtain ⟨c, a1, a2, a3⟩ := hi
          obtain ⟨c', b1, b2, b3⟩ := hj
          rcases Nat.lt_trichotomy i j with q | q | q
          · exact absurd (b3 i c q a1) a2
          · exact q.symm
          · exact absurd (a3 j c' q b1) b2
        subst e
        walk_at "rd"
        exact r_mk (wi.ex ex)
def spChecks (C : Addr) : Sp := fun vs H Q E => ∃ x y, vs = [x, y] ∧ RdArg C H x E fun _ => RdArg C H y E fun _ => ∀ H', Ex H H' → Q .non H'
theorem RdArg.ex {C : Addr} {H H' : Hp} {x : V} {E : XK} {ok : List Nat → Prop} (h : RdArg C H x E ok) (e : Ex H H') : RdArg C H' x E ok := by
  rcases h with h | ⟨n, h1, h2⟩
  · exact .inl h
  · exact .inr ⟨n, h1.ex e, h2.ex e⟩
theorem RdArg.imp {C : Addr} {H : Hp} {x : V} {E E' : XK} {ok ok' : List Nat → Prop} (h : RdArg C H x E ok) (k : ∀ l, Rnd l → ok l → ok' l) (ke : ∀ c d H, E c d H → E' c d H) : RdArg C H x E' ok' := by
  rcases h with ⟨l, h1, h2, h3⟩ | ⟨n, h1, h2⟩
  · exact .inl ⟨l, h1, h2, k l h2 h3⟩
  · exact .inr ⟨n, h1, fun d H' a b c => ke _ _ _ (h2 d H' a b c)⟩
abbrev s_check_rounds : Stmt := topS 32
abbrev N_check_rounds : List Str := ["first", "second"]
theorem sc_check_rounds : FnScope ["first", "second"] ["first", "second"] (defScope s_check_rounds) := ⟨rfl, rfl, rfl, by decide +kernel, rfl, by decide +kernel, by decide +kernel⟩
theorem can_check_rounds (T : Bi mg) (F : Defd K mg "check_rounds" s_check_rounds ["first", "second"]) {A_BadRound : Addr} (C_check_round : Can P w K mg base (L2.CX P w) 3 "check_round" ["row"] (spCheck A_BadRound)) : Can P w K mg base (L2.CX P w) 4 "check_rounds" ["first", "second"] (spChecks A_BadRound) := by
  refine canX F sc_check_rounds (fun vs H Q E h => ?_) (fun f cdv A outer s H vs Q E hr h => ⟨_, (pss_cons (ps_expr (pe_canX C_check_round hr (by decide) rfl (passes_call (takes_of rfl rfl rfl rfl) (fun _ _ _ _ h => h)) (pa_cons (pv 0) pa_nil)))
  (pss_one (ps_expr (pe_canX C_check_round hr (by decide) rfl (passes_call (takes_of rfl rfl rfl rfl) (fun _ _ _ _ h => h)) (pa_cons (pv 1) pa_nil))))), ?_⟩)
  · obtain ⟨_, _, rfl, _⟩ := h
    rfl
  · obtain ⟨x, y, rfl, h⟩ := h
    walk_at "rd"
    refine ⟨x, rfl, h.imp (fun l hl h2 H1 ex1 => ?_) fun _ _ _ z => z⟩
    walk_at "rd"
    refine ⟨y, rfl, (h2.ex ex1).imp (fun l hl q H2 ex2 => ?_) fun _ _ _ z => z⟩
    exact q H2 (ex1.trans ex2)
def spTurnedRow : Sp := fun vs H Q _ => ∃ (l : List Nat) (n : Int), vs = [.str (S l), .int n] ∧ l ≠ [] ∧ l.length ≤ 100 ∧ 0 ≤ n ∧ Q (.str (S (rot l n.toNat))) H
abbrev s_turned_row : Stmt := topS 33
abbrev N_turned_row : List Str := ["row", "beats", "at"]
theorem sc_turned_row : FnScope ["row", "beats", "at"] ["row", "beats"] (defScope s_turned_row) := ⟨rfl, rfl, rfl, by decide +kernel, rfl, by decide +kernel, by decide +kernel⟩
theorem can_turned_row (T : Bi mg) (F : Defd K mg "turned_row" s_turned_row ["row", "beats"]) : Can P w K mg base L2.CX0 1 "turned_row" ["row", "beats"] spTurnedRow := by
  refine can0 F sc_turned_row (fun vs H Q E h => ?_) (fun f cdv A outer s H vs Q E hr h => ⟨_, (pss_cons (ps_set (i := 2) sc_turned_row.nd rfl (by first | exact Or.inl rfl | exact Or.inr rfl) (pe_op op_mod (pv 1) (pe_callB call_lenS (by rfl) T.b_len boot_len (pa_cons (pv 0) pa_nil))))
  (pss_one (ps_ret (pe_op op_catS (pe_slice sl_strS (pv 0) (po_some (pv 2)) po_none) (pe_slice sl_strS (pv 0) po_none (po_some (pv 2))))))), ?_⟩)
  · obtain ⟨_, _, rfl, _⟩ := h
    rfl
  · obtain ⟨l, n, rfl, hne, hl, hn, q⟩ := h
    have h1 := pos_len hne
    have h2 : (0 : Int) < (l.length : Int) := by omega
    have h3 : 0 ≤ n % (l.length : Int) := Int.emod_nonneg _ (by omega)
    walk_at "rd"
    rw [cut_from h3, cut_to h3]
    have e : (n % (l.length : Int)).toNat = n.toNat % l.length := by
      have e1 : n = ((n.toNat : Nat) : Int) := by omega
      rw [e1, ← Int.natCast_emod, Int.toNat_natCast, Int.toNat_natCast]
    refine r_catS (small (by rw [List.length_take, List.length_drop]; omega)) ?_
    rw [e, turn_eq hne]
    exact q
def spShortest : Sp := fun vs H Q _ => ∃ (l : List Nat), vs = [.str (S l)] ∧ l ≠ [] ∧ l.length ≤ 100 ∧ Q (.str (S (lst l))) H
abbrev s_shortest_row : Stmt := topS 34
abbrev N_shortest_row : List Str := ["row", "size"]
theorem sc_shortest_row : FnScope ["row", "size"] ["row"] (defScope s_shortest_row) := ⟨rfl, rfl, rfl, by decide +kernel, rfl, by decide +kernel, by decide +kernel⟩
theorem can_shortest_row (T : Bi mg) (F : Defd K mg "shortest_row" s_shortest_row ["row"]) : Can P w K mg base L2.CX0 1 "shortest_row" ["row"] spShortest := by
  refine can0 F sc_shortest_row (fun vs H Q E h => ?_) (fun f cdv A outer s H vs Q E hr h => ⟨_, (pss_cons (ps_set (i := 1) sc_shortest_row.nd rfl (by first | exact Or.inl rfl | exact Or.inr rfl) pe_int)
  (pss_cons (ps_while PassesOwn.never (pt_cmpR op_ne (pe_op op_repS (pe_slice sl_strS (pv 0) po_none (po_some (pv 1))) (pe_op op_fdivW (pe_callB call_lenS (by rfl) T.b_len boot_len (pa_cons (pv 0) pa_nil)) (pv 1))) (pv 0) (nomark _)) (pss_one (ps_set (i := 1) sc_shortest_row.nd rfl (by first | exact Or.inl rfl | exact Or.inr rfl) (pe_op op_add (pv 1) pe_int))))
  (pss_one (ps_ret (pe_slice sl_strS (pv 0) po_none (po_some (pv 1))))))), ?_⟩)
  · obtain ⟨_, rfl, _⟩ := h
    rfl
  · obtain ⟨l, rfl, hne, hl, q⟩ := h
    have h1 := pos_len hne
    walk_at "rd"
    refine ⟨fun m σ' H' => ∃ k : Nat, σ' = [some (.str (S l)), some (.int (k : Int))] ∧ H' = H ∧ m + k = l.length ∧ 1 ≤ k ∧ ∀ j, 1 ≤ j → j < k → ¬ Rep l j, ⟨l.length - 1, 1, rfl, rfl, by omega, by omega, fun j a b => by omega⟩, fun m σ' H' hW => ?_⟩
    obtain ⟨k, rfl, rfl, hm, hk, hJ⟩ := hW
    have k0 : (0 : Int) < (k : Int) := by omega
    have dv : CDivW (l.length : Int) (k : Int) := ⟨k0, by
      have h3 : (k : Int).natAbs < 2 ^ 200 := by omega
      have := PySem.Flt.log2_lt_of (by decide : 0 < 200) h3
      omega⟩
    have eq : (l.length : Int) / (k : Int) = ((l.length / k : Nat) : Int) := by rw [Int.natCast_ediv]
    have q1 : l.length / k ≤ l.length := Nat.div_le_self _ _
    have q0 : 0 ≤ (l.length : Int) / (k : Int) := by rw [eq]; exact Int.natCast_nonneg _
    have q9 : (l.length : Int) / (k : Int) ≤ 100 := by rw [eq]; exact Int.ofNat_le.mpr (Nat.le_trans q1 hl)
    have eqn : ((l.length : Int) / (k : Int)).toNat = l.length / k := by rw [eq, Int.toNat_natCast]
    have q2 : (l.take k).length * (l.length / k) ≤ l.length := by
      rw [List.length_take, Nat.min_eq_left (by omega), Nat.mul_comm]
      exact Nat.div_mul_le_self _ _
    walk_at "rd"
    rw [cut_to (by omega), Int.toNat_natCast]
    refine r_repS q0 (by omega) (by rw [eqn]; exact small (by omega)) ?_
    rw [eqn]
    walk_at "rd"
    refine r_iteN (fun h => ?_) (fun h => ?_)
    · have hlt : k < l.length := by
        by_cases e : k = l.length
        · exact absurd (by rw [e]; exact rep_last hne) h
        · omega
      refine ⟨fun σ2 H2 => ∃ k2 : Nat, σ2 = [some (.str (S l)), some (.int (k2 : Int))] ∧ H2 = H' ∧ (m - 1) + k2 = l.length ∧ 1 ≤ k2 ∧ ∀ j, 1 ≤ j → j < k2 → ¬ Rep l j, fun σ2 H2 z => ⟨m - 1, by omega, z⟩, ?_⟩
      walk_at "rd"
      refine ⟨k + 1, rfl, rfl, by omega, by omega, fun j a b => ?_⟩
      by_cases e : j = k
      · rw [e]; exact h
      · exact hJ j a (by omega)
    · walk_at "rd"
      rw [cut_to (by omega), Int.toNat_natCast]
      have e : k = per l := rep_least hne hk (by omega) h hJ
      unfold lst at q
      rw [← e] at q
      exact q
/-- whether a thing is an integer, by its kind -/
def IntB (H : Hp) (x : V) (b : Bool) : Prop := (∃ i, x = .int i ∧ b = true) ∨ ((∃ k, x = .bl k) ∧ b = false) ∨ (x = .non ∧ b = false) ∨ ((∃ l, x = .str l) ∧ b = false) ∨ ((∃ a xs, x = .ref a ∧ H a = some (.lst xs)) ∧ b = false) ∨ ((∃ a xs, x = .ref a ∧ H a = some (.tup xs)) ∧ b = false)
theorem IntB.ex {H H' : Hp} {x : V} {b : Bool} (h : IntB H x b) (e : Ex H H') : IntB H' x b := by
  rcases h with h | h | h | h | ⟨⟨a, xs, h1, h2⟩, h3⟩ | ⟨⟨a, xs, h1, h2⟩, h3⟩
  · exact .inl h
  · exact .inr (.inl h)
  · exact .inr (.inr (.inl h))
  · exact .inr (.inr (.inr (.inl h)))
  · exact .inr (.inr (.inr (.inr (.inl ⟨⟨a, xs, h1, e _ _ h2⟩, h3⟩))))
  · exact .inr (.inr (.inr (.inr (.inr ⟨⟨a, xs, h1, e _ _ h2⟩, h3⟩))))
def spIsInt : Sp := fun vs H Q _ => ∃ x b, vs = [x] ∧ IntB H x b ∧ Q (.bl b) H
abbrev s_is_integer : Stmt := topS 9
abbrev N_is_integer : List Str := ["thing"]
theorem sc_is_integer : FnScope ["thing"] ["thing"] (defScope s_is_integer) := ⟨rfl, rfl, rfl, by decide +kernel, rfl, by decide +kernel, by decide +kernel⟩
theorem can_is_integer (T : Bi mg) (F : Defd K mg "is_integer" s_is_integer ["thing"]) : Can P w K mg base L2.CX0 1 "is_integer" ["thing"] spIsInt := by
  refine can0 F sc_is_integer (fun vs H Q E h => ?_) (fun f cdv A outer s H vs Q E hr h => ⟨_, (pss_one (ps_ret (pe_and (pe_callB call_isi (by rfl) T.b_isinstance boot_isinstance (pa_cons (pv 0) (pa_cons (pe_bltn (v := .ty "int") (by rfl) T.b_int boot_int rfl) pa_nil))) (pe_one (pe_not (pe_callB call_isi (by rfl) T.b_isinstance boot_isinstance (pa_cons (pv 0) (pa_cons (pe_bltn (v := .ty "bool") (by rfl) T.b_bool boot_bool rfl) pa_nil)))))))), ?_⟩)
  · obtain ⟨_, _, rfl, _⟩ := h
    rfl
  · obtain ⟨x, b, rfl, hb, q⟩ := h
    rcases hb with ⟨i, rfl, rfl⟩ | ⟨⟨k, rfl⟩, rfl⟩ | ⟨rfl, rfl⟩ | ⟨⟨l, rfl⟩, rfl⟩ | ⟨⟨a, xs, rfl, h⟩, rfl⟩ | ⟨⟨a, xs, rfl, h⟩, rfl⟩
    all_goals
      walk_at "rd"
      exact q
def spLeastRound (C : Addr) : Sp := fun vs H Q E => ∃ x, vs = [x] ∧ RdArg C H x E fun l => ∀ H', Ex H H' → Q (.str (S (lst l))) H'
def spRhythm (C : Addr) : Sp := fun vs H Q E => ∃ x, vs = [x] ∧ RdArg C H x E fun l => ∀ z H', z ∈ rots (lst l) → (∀ y ∈ rots (lst l), ¬ y < z) → Ex H H' → Q (.str (S z)) H'
def BtArg (C : Addr) (H : Hp) (y : V) (E : XK) (ok : Int → Prop) : Prop := (∃ n, y = .int n ∧ 0 ≤ n ∧ ok n) ∨ (((∃ n, y = .int n ∧ n < 0) ∨ IntB H y false) ∧ Wish C "beats" y H E)
def spTurned (C CB : Addr) : Sp := fun vs H Q E => ∃ x y, vs = [x, y] ∧ RdArg C H x E fun l => BtArg CB H y E fun n => ∀ H', Ex H H' → Q (.str (S (rot l n.toNat))) H'
abbrev s_turned : Stmt := topS 35
abbrev N_turned : List Str := ["row", "beats"]
theorem sc_turned : FnScope ["row", "beats"] ["row", "beats"] (defScope s_turned) := ⟨rfl, rfl, rfl, by decide +kernel, rfl, by decide +kernel, by decide +kernel⟩
theorem can_turned (T : Bi mg) (F : Defd K mg "turned" s_turned ["row", "beats"]) {A_BadRound : Addr} {A_BadBeats : Addr} (E_BadBeats : Err P w K mg base "BadBeats" A_BadBeats "beats") (C_check_round : Can P w K mg base (L2.CX P w) 3 "check_round" ["row"] (spCheck A_BadRound)) (C_turned_row : Can P w K mg base L2.CX0 1 "turned_row" ["row", "beats"] spTurnedRow) (C_is_integer : Can P w K mg base L2.CX0 1 "is_integer" ["thing"] spIsInt) : Can P w K mg base (L2.CX P w) 4 "turned" ["row", "beats"] (spTurned A_BadRound A_BadBeats) := by
  refine canX F sc_turned (fun vs H Q E h => ?_) (fun f cdv A outer s H vs Q E hr h => ⟨_, (pss_cons (ps_expr (pe_canX C_check_round hr (by decide) rfl (passes_call (takes_of rfl rfl rfl rfl) (fun _ _ _ _ h => h)) (pa_cons (pv 0) pa_nil)))
  (pss_cons (ps_if (PW.pt (pw_or (pt_not (pt_val (pe_can C_is_integer hr (by decide) rfl (pa_cons (pv 1) pa_nil)))) (pw_or1 (pt_cmpR op_lt (pv 1) pe_int (nomark _))))) (pss_one (ps_raise rfl (takes_of rfl rfl rfl rfl) (pmk_err E_BadBeats hr (by decide) rfl (pa_cons (pv 1) pa_nil)))) pss_nil)
  (pss_one (ps_ret (pe_can C_turned_row hr (by decide) rfl (pa_cons (pv 0) (pa_cons (pv 1) pa_nil))))))), ?_⟩)
  · obtain ⟨_, _, rfl, _⟩ := h
    rfl
  · obtain ⟨x, y, rfl, h⟩ := h
    rcases h with ⟨l, rfl, hl, h⟩ | ⟨n, hb, wi⟩
    · have h2 := hl.le
      walk_at "rd"
      refine ⟨_, rfl, .inl ⟨l, rfl, hl, fun H1 ex1 => ?_⟩⟩
      walk_at "rd"
      rcases h with ⟨n, rfl, hn, q⟩ | ⟨hb, wi⟩
      · refine ⟨_, true, rfl, .inl ⟨n, rfl, rfl⟩, ?_⟩
        walk_at "rd"
        refine r_ite (fun h => absurd h (by omega)) (fun _ => ?_)
        walk_at "rd"
        exact ⟨l, n, rfl, hl.ne, by omega, hn, q H1 ex1⟩
      · rcases hb with ⟨n, rfl, hn⟩ | hb
        · refine ⟨_, true, rfl, .inl ⟨n, rfl, rfl⟩, ?_⟩
          walk_at "rd"
          refine r_ite (fun _ => ?_) (fun h => absurd hn h)
          walk_at "rd"
          exact r_mk (wi.ex ex1)
        · refine ⟨_, false, rfl, hb.ex ex1, ?_⟩
          walk_at "rd"
          exact r_mk (wi.ex ex1)
    · walk_at "rd"
      exact ⟨x, rfl, .inr ⟨n, hb, wi⟩⟩
def spAlike (C : Addr) : Sp := fun vs H Q E => ∃ x y, vs = [x, y] ∧ RdArg C H x E fun a => RdArg C H y E fun b => ∀ H', Ex H H' → Q (.bl (SameB a b)) H'
theorem alikeB {a b : List Nat} (ha : a ≠ []) (hb : b ≠ []) : decide (lst a = lst b) = SameB a b := by
  by_cases h : lst a = lst b
  · rw [decide_eq_true h, sameB.mpr ((alike_iff ha hb).mp h)]
  · rw [decide_eq_false h, sameB_false.mpr fun z => h ((alike_iff ha hb).mpr z)]
abbrev s_alike : Stmt := topS 36
abbrev N_alike : List Str := ["first", "second"]
theorem sc_alike : FnScope ["first", "second"] ["first", "second"] (defScope s_alike) := ⟨rfl, rfl, rfl, by decide +kernel, rfl, by decide +kernel, by decide +kernel⟩
theorem can_alike (T : Bi mg) (F : Defd K mg "alike" s_alike ["first", "second"]) {A_BadRound : Addr} (C_check_rounds : Can P w K mg base (L2.CX P w) 4 "check_rounds" ["first", "second"] (spChecks A_BadRound)) (C_shortest_row : Can P w K mg base L2.CX0 1 "shortest_row" ["row"] spShortest) : Can P w K mg base (L2.CX P w) 5 "alike" ["first", "second"] (spAlike A_BadRound) := by
  refine canX F sc_alike (fun vs H Q E h => ?_) (fun f cdv A outer s H vs Q E hr h => ⟨_, (pss_cons (ps_expr (pe_canX C_check_rounds hr (by decide) rfl (passes_call (takes_of rfl rfl rfl rfl) (fun _ _ _ _ h => h)) (pa_cons (pv 0) (pa_cons (pv 1) pa_nil))))
  (pss_one (ps_ret (pe_cmpR op_eq (pe_can C_shortest_row hr (by decide) rfl (pa_cons (pv 0) pa_nil)) (pe_can C_shortest_row hr (by decide) rfl (pa_cons (pv 1) pa_nil)) (nomark _))))), ?_⟩)
  · obtain ⟨_, _, rfl, _⟩ := h
    rfl
  · obtain ⟨x, y, rfl, h⟩ := h
    walk_at "rd"
    refine ⟨x, y, rfl, ?_⟩
    rcases h with ⟨a, rfl, ha, h⟩ | h
    · refine .inl ⟨a, rfl, ha, ?_⟩
      rcases h with ⟨b, rfl, hb, q⟩ | h
      · refine .inl ⟨b, rfl, hb, fun H1 ex1 => ?_⟩
        have la := ha.le
        have lb := hb.le
        walk_at "rd"
        refine ⟨a, rfl, ha.ne, by omega, ?_⟩
        walk_at "rd"
        refine ⟨b, rfl, hb.ne, by omega, ?_⟩
        walk_at "rd"
        rw [alikeB ha.ne hb.ne]
        exact q H1 ex1
      · exact .inr h
    · exact .inr h
def spMoments (C : Addr) : Sp := fun vs H Q E => ∃ x y, vs = [x, y] ∧ RdArg C H x E fun a => RdArg C H y E fun b => ∀ p H', Ex H H' → H' p = some (.tup ((moms a b).map fun (n : Nat) => V.int (n : Int))) → Q (.ref p) H'
end
end Fk

set_option Elab.async false
set_option linter.all false
set_option maxRecDepth 100000
set_option maxHeartbeats 4000000
namespace Fk
open PySem PySem.Spec PyProof.Rows L2 Fg Fm
open Rt hiding rep_len
local macro_rules | `(tactic| walk_at "rd1") => `(tactic| first
  | with_reducible refine r_seq ?_
  | with_reducible refine r_asg ?_
  | with_reducible refine r_gname ?_
  | with_reducible refine r_gsub ?_
  | with_reducible refine r_ret ?_
  | with_reducible refine r_retN ?_
  | with_reducible refine r_next ?_
  | with_reducible refine r_drop ?_
  | with_reducible refine r_ifS ?_
  | with_reducible refine r_if ?_
  | with_reducible refine r_par ?_
  | with_reducible refine r_pair ?_
  | with_reducible refine r_test ?_
  | with_reducible refine r_tB ?_
  | with_reducible refine r_not ?_
  | with_reducible refine r_and ?_
  | with_reducible refine r_or ?_
  | with_reducible refine r_andV ?_
  | with_reducible refine r_orV ?_
  | with_reducible refine r_notV ?_
  | with_reducible refine r_nil ?_
  | with_reducible refine r_cons ?_
  | with_reducible refine r_call ?_
  | with_reducible refine r_callS ?_
  | with_reducible refine r_cb ?_
  | with_reducible refine r_then ?_
  | with_reducible refine r_tup ?_
  | with_reducible refine r_lst ?_
  | with_reducible refine r_sl ?_
  | with_reducible refine r_nopart ?_
  | with_reducible refine r_part ?_
  | with_reducible refine r_lcR1 ?_
  | with_reducible refine r_lcR2 ?_
  | with_reducible refine r_lcL ?_
  | with_reducible refine r_lcT ?_
  | with_reducible refine r_forR1 ?_
  | with_reducible refine r_forR2 ?_
  | with_reducible refine r_forL ?_
  | with_reducible refine r_forT ?_
  | with_reducible refine r_forE ?_
  | with_reducible refine r_strE ?_
  | ((with_reducible refine r_rng1 ?hc ?_); (case hc => omega))
  | ((with_reducible refine r_rng2 ?hc ?_); (case hc => omega))
  | ((with_reducible refine' r_refL ?hc ?_); (case hc => first | assumption | exact Evl.sq_of (by assumption)))
  | ((with_reducible refine' r_refT ?hc ?_); (case hc => first | assumption | exact Evl.st_of (by assumption)))
  | with_reducible refine r_op ?_
  | with_reducible refine r_un ?_
  | with_reducible refine r_chain ?_
  | ((with_reducible refine' r_var ?hv ?_); (case hv => exact rfl))
  | with_reducible refine r_cS ?_
  | with_reducible refine r_cs ?_
  | with_reducible refine r_c ?_
  | with_reducible refine r_yes ?_
  | with_reducible refine r_bm ?_
  | with_reducible refine r_bl ?_
  | with_reducible refine r_in ?_
  | with_reducible refine r_ty ?_
  | with_reducible refine r_I0 ?_
  | ((with_reducible refine r_I ?hc ?_); (case hc => first | assumption | (show (0 : Int) < _; decide) | exact Or.inr ⟨by decide, by decide⟩ | exact Or.inr ⟨by omega, by omega⟩ | exact Or.inl ⟨by decide, by decide⟩ | exact (show CDivW _ _ from ⟨by decide, by decide +kernel⟩) | exact (show CPowW _ _ from ⟨by decide, by decide +kernel⟩) | (show (0 : Int) < _; omega)))
  | with_reducible refine r_U ?_
  | with_reducible refine r_eqI ?_
  | with_reducible refine r_neI ?_
  | with_reducible refine r_eqS ?_
  | with_reducible refine r_neS ?_
  | with_reducible refine r_eqB ?_
  | with_reducible refine r_neB ?_
  | with_reducible refine r_niS ?_
  | with_reducible refine r_inSS ?_
  | ((with_reducible refine r_slSS ?hc ?_); (case hc => first | exact small (by omega) | exact small (by simp; omega)))
  | ((with_reducible refine r_lenS ?hc ?_); (case hc => first | exact small (by omega) | exact small (by simp; omega)))
  | ((with_reducible refine' r_lenL ?hc ?_); (case hc => first | assumption | exact Evl.sq_of (by assumption)))
  | ((with_reducible refine' r_lenT ?hc ?_); (case hc => first | assumption | exact Evl.st_of (by assumption)))
  | ((with_reducible refine' r_ixL ?h1 ?h2 ?h3 ?_); (case h1 => first | assumption | exact Evl.sq_of (by assumption) | exact Evl.sq_of upd_same); (case h2 => first | decide | omega); (case h3 => first | exact rfl | assumption))
  | ((with_reducible refine' r_ixT ?h1 ?h2 ?h3 ?_); (case h1 => first | assumption | exact Evl.st_of (by assumption)); (case h2 => first | decide | omega); (case h3 => first | exact rfl | assumption))
  | with_reducible refine r_T ?_
  | with_reducible refine r_notNn ?_
  | with_reducible refine r_notN_int ?_
  | with_reducible refine r_notN_str ?_
  | with_reducible refine r_notN_ref ?_
  | with_reducible refine r_isNn ?_
  | with_reducible refine r_isN_int ?_
  | with_reducible refine r_isN_str ?_
  | with_reducible refine r_isN_ref ?_
  | ((with_reducible refine' r_isi ?ht ?hk ?_); (case ht => first | exact .base (.int _) | exact .base (.bl _) | exact .base (.str _) | exact .base .non | exact .base (.lst (by assumption)) | exact .base (.tup (by assumption))); (case hk => first | exact kb_int_int | exact kb_int_bool | exact kb_int_str | exact kb_int_list | exact kb_int_tuple | exact kb_bool_int | exact kb_bool_bool | exact kb_bool_str | exact kb_bool_list | exact kb_bool_tuple | exact kb_str_int | exact kb_str_bool | exact kb_str_str | exact kb_str_list | exact kb_str_tuple | exact kb_NoneType_int | exact kb_NoneType_bool | exact kb_NoneType_str | exact kb_NoneType_list | exact kb_NoneType_tuple | exact kb_list_int | exact kb_list_bool | exact kb_list_str | exact kb_list_list | exact kb_list_tuple | exact kb_tuple_int | exact kb_tuple_bool | exact kb_tuple_str | exact kb_tuple_list | exact kb_tuple_tuple))
  | with_reducible refine r_F ?_
  | with_reducible refine r_nT ?_
  | with_reducible refine r_nF ?_
  | with_reducible refine r_mko ?_
  | with_reducible refine r_xf ?_
  | ((with_reducible refine' r_sum ?hc ?_); (case hc => first | assumption | exact Evl.sq_of (by assumption)))
  | ((with_reducible refine' r_setL ?h1 ?h2 ?h3 ?_); (case h1 => first | assumption | exact upd_same); (case h2 => first | decide | omega); (case h3 => first | (show _ < _; decide) | (simp; done)))
  | with_reducible refine r_int ?_
  | with_reducible refine r_abs ?_)
local macro_rules | `(tactic| walk_at "rd") => `(tactic| repeat (walk_at "rd1"))

section
variable {P : Program} {w : World} {K : PySem.W.Frag} {mg : Str → Option Value} {base : Heap}
/-! ### parting and laying over -/
def PartAt (a b : List Nat) (t : Nat) : Prop := at' a t ≠ at' b t ∧ ∀ s, s < t → at' a s = at' b s
theorem same_lcm {a b : List Nat} {m : Nat} (ha : a.length ∣ m) (hb : b.length ∣ m) (m1 : 1 ≤ m) (h : ∀ t, t < m → at' a t = at' b t) : Same a b := fun t => by
  rw [← at_mod a ha, ← at_mod b hb]
  exact h _ (Nat.mod_lt _ m1)
theorem lcm_mul_le {n m : Nat} (hn : n ≤ 24) (hm : m ≤ 24) : Nat.lcm n m ≤ 576 := by
  have h1 : Nat.lcm n m ≤ n * m := by
    by_cases e : n * m = 0
    · rcases Nat.mul_eq_zero.mp e with z | z
      · rw [z, Nat.lcm_zero_left]; exact Nat.zero_le _
      · rw [z, Nat.lcm_zero_right]; exact Nat.zero_le _
    · exact Nat.le_of_dvd (Nat.pos_of_ne_zero e) (Nat.lcm_dvd_mul _ _)
  exact Nat.le_trans h1 (Nat.mul_le_mul hn hm)
def ovr (a b : List Nat) : List Nat := (List.range (Nat.lcm a.length b.length)).map fun i => if at' a i = 46 then at' b i else at' a i
theorem tog_ovr {a b : List Nat} (h : Nat.lcm a.length b.length ≤ 24) : tog a.length a b.length b = ovr a b := by
  unfold tog ovr
  rw [if_pos h]
  rfl
theorem sg_isSg {c : Nat} (h : Sg c) : isSg c = true := by
  rcases h with rfl | rfl | rfl | rfl <;> decide
def spParting (C : Addr) : Sp := fun vs H Q E => ∃ x y, vs = [x, y] ∧ RdArg C H x E fun a => RdArg C H y E fun b => (∀ (t : Nat) H', Ex H H' → PartAt a b t → Q (.int (t : Int)) H') ∧ ∀ H', Ex H H' → Same a b → Q .non H'
def Laid (CT : Addr) (a b : List Nat) (H : Hp) (Q : VK) (E : XK) : Prop := (Nat.lcm a.length b.length ≤ 24 → ∀ H', Ex H H' → Q (.str (S (ovr a b))) H') ∧ (24 < Nat.lcm a.length b.length → Wish CT "number" (.int ((Nat.lcm a.length b.length : Nat) : Int)) H E)
def spLaid (C CT : Addr) : Sp := fun vs H Q E => ∃ x y, vs = [x, y] ∧ RdArg C H x E fun a => RdArg C H y E fun b => Laid CT a b H Q E
abbrev s_parting : Stmt := topS 37
abbrev N_parting : List Str := ["first", "second", "beat"]
theorem sc_parting : FnScope ["first", "second", "beat"] ["first", "second"] (defScope s_parting) := ⟨rfl, rfl, rfl, by decide +kernel, rfl, by decide +kernel, by decide +kernel⟩
theorem can_parting (T : Bi mg) (F : Defd K mg "parting" s_parting ["first", "second"]) (g_lcm : mg "lcm" = some (.builtin "math.lcm")) {A_BadRound : Addr} (C_check_rounds : Can P w K mg base (L2.CX P w) 4 "check_rounds" ["first", "second"] (spChecks A_BadRound)) : Can P w K mg base (L2.CX P w) 5 "parting" ["first", "second"] (spParting A_BadRound) := by
  refine canX F sc_parting (fun vs H Q E h => ?_) (fun f cdv A outer s H vs Q E hr h => ⟨_, (pss_cons (ps_expr (pe_canX C_check_rounds hr (by decide) rfl (passes_call (takes_of rfl rfl rfl rfl) (fun _ _ _ _ h => h)) (pa_cons (pv 0) (pa_cons (pv 1) pa_nil))))
  (pss_cons (ps_for PassesOwn.leaving rfl (pi_range1 rfl T.b_range (pa_cons (pe_callBfun cr_lcm (by rfl) g_lcm (pa_cons (pe_callB call_lenS (by rfl) T.b_len boot_len (pa_cons (pv 0) pa_nil)) (pa_cons (pe_callB call_lenS (by rfl) T.b_len boot_len (pa_cons (pv 1) pa_nil)) pa_nil))) pa_nil)) (pg_name (i := 2) sc_parting.nd rfl (by first | exact Or.inl rfl | exact Or.inr rfl))
    (pss_one (ps_if (pt_cmpR op_ne (pe_ix ix_strS (pv 0) (pe_op op_mod (pv 2) (pe_callB call_lenS (by rfl) T.b_len boot_len (pa_cons (pv 0) pa_nil))) (fun _ _ => rfl)) (pe_ix ix_strS (pv 1) (pe_op op_mod (pv 2) (pe_callB call_lenS (by rfl) T.b_len boot_len (pa_cons (pv 1) pa_nil))) (fun _ _ => rfl)) (nomark _)) (pss_one (ps_ret (pv 2))) pss_nil)))
  (pss_one (ps_ret pe_non)))), ?_⟩)
  · obtain ⟨_, _, rfl, _⟩ := h
    rfl
  · obtain ⟨x, y, rfl, h⟩ := h
    walk_at "rd"
    refine ⟨x, y, rfl, ?_⟩
    rcases h with ⟨a, rfl, ha, h⟩ | h
    · refine .inl ⟨a, rfl, ha, ?_⟩
      rcases h with ⟨b, rfl, hb, q1, q2⟩ | h
      · refine .inl ⟨b, rfl, hb, fun H1 ex1 => ?_⟩
        have la := ha.le
        have lb := hb.le
        have pa := ha.pos
        have pb := hb.pos
        have m1 : 1 ≤ Nat.lcm a.length b.length := Nat.lcm_pos pa pb
        have m2 := lcm_mul_le la lb
        walk_at "rd"
        refine ⟨a.length, b.length, rfl, Nat.lt_of_le_of_lt la (Nat.lt_of_lt_of_le (by decide : 24 < 2 ^ 5) (Nat.pow_le_pow_right (by decide) (by decide))), Nat.lt_of_le_of_lt lb (Nat.lt_of_lt_of_le (by decide : 24 < 2 ^ 5) (Nat.pow_le_pow_right (by decide) (by decide))), ?_⟩
        walk_at "rd"
        refine forR (fun i σ' H' => ∃ x, σ' = [some (.str (S a)), some (.str (S b)), x] ∧ H' = H1 ∧ ∀ t, t < i → at' a t = at' b t) ⟨none, rfl, rfl, fun t h => by omega⟩ (fun i σ' H' hi hJ => ?_) (fun σ' H' hJ => ?_)
        · obtain ⟨x, rfl, rfl, hJ⟩ := hJ
          walk_at "rd"
          refine r_ixSS (small (by omega)) (Int.emod_nonneg _ (by omega)) (at_int0 ha.ne i) ?_
          walk_at "rd"
          refine r_ixSS (small (by omega)) (Int.emod_nonneg _ (by omega)) (at_int0 hb.ne i) ?_
          walk_at "rd"
          refine r_iteN (fun h => ?_) (fun h => ?_)
          · walk_at "rd"
            rw [Int.zero_add]
            exact q1 i _ ex1 ⟨fun z => h (by rw [z]), hJ⟩
          · walk_at "rd"
            refine ⟨_, rfl, rfl, fun t ht => ?_⟩
            by_cases e : t = i
            · rw [e]
              injection h
            · exact hJ t (by omega)
        · obtain ⟨x, rfl, rfl, hJ⟩ := hJ
          walk_at "rd"
          exact q2 _ ex1 (same_lcm (Nat.dvd_lcm_left _ _) (Nat.dvd_lcm_right _ _) m1 fun t ht => hJ t (by omega))
      · exact .inr h
    · exact .inr h
abbrev s_laid_over : Stmt := topS 38
abbrev N_laid_over : List Str := ["first", "second", "beats", "row"]
theorem sc_laid_over : FnScope ["first", "second", "beats", "row"] ["first", "second"] (defScope s_laid_over) := ⟨rfl, rfl, rfl, by decide +kernel, rfl, by decide +kernel, by decide +kernel⟩
theorem can_laid_over (T : Bi mg) (F : Defd K mg "laid_over" s_laid_over ["first", "second"]) (c_MOST_BEATS : ∃ u, mg "MOST_BEATS" = some u ∧ RelV (.int 24) u) {A_TooLong : Addr} (E_TooLong : Err P w K mg base "TooLong" A_TooLong "number") (C_together : Can P w K mg base L2.CX0 1 "together" ["beats", "row", "other_beats", "other"] spTogether) {A_BadRound : Addr} (C_check_rounds : Can P w K mg base (L2.CX P w) 4 "check_rounds" ["first", "second"] (spChecks A_BadRound)) : Can P w K mg base (L2.CX P w) 5 "laid_over" ["first", "second"] (spLaid A_BadRound A_TooLong) := by
  refine canX F sc_laid_over (fun vs H Q E h => ?_) (fun f cdv A outer s H vs Q E hr h => ⟨_, (pss_cons (ps_expr (pe_canX C_check_rounds hr (by decide) rfl (passes_call (takes_of rfl rfl rfl rfl) (fun _ _ _ _ h => h)) (pa_cons (pv 0) (pa_cons (pv 1) pa_nil))))
  (pss_cons (ps_asg (pe_can C_together hr (by decide) rfl (pa_cons (pe_callB call_lenS (by rfl) T.b_len boot_len (pa_cons (pv 0) pa_nil)) (pa_cons (pv 0) (pa_cons (pe_callB call_lenS (by rfl) T.b_len boot_len (pa_cons (pv 1) pa_nil)) (pa_cons (pv 1) pa_nil))))) (pg_tup rfl (pgs_cons (pg_name (i := 2) sc_laid_over.nd rfl (by first | exact Or.inl rfl | exact Or.inr rfl)) (pgs_cons (pg_name (i := 3) sc_laid_over.nd rfl (by first | exact Or.inl rfl | exact Or.inr rfl)) pgs_nil))))
  (pss_cons (ps_if (pt_cmpR op_gt (pv 2) (C8.pe_gc rfl c_MOST_BEATS) (nomark _)) (pss_one (ps_raise rfl (takes_of rfl rfl rfl rfl) (pmk_err E_TooLong hr (by decide) rfl (pa_cons (pv 2) pa_nil)))) pss_nil)
  (pss_one (ps_ret (pv 3)))))), ?_⟩)
  · obtain ⟨_, _, rfl, _⟩ := h
    rfl
  · obtain ⟨x, y, rfl, h⟩ := h
    walk_at "rd"
    refine ⟨x, y, rfl, ?_⟩
    rcases h with ⟨a, rfl, ha, h⟩ | h
    · refine .inl ⟨a, rfl, ha, ?_⟩
      rcases h with ⟨b, rfl, hb, q1, q2⟩ | h
      · refine .inl ⟨b, rfl, hb, fun H1 ex1 => ?_⟩
        have la := ha.le
        have lb := hb.le
        have big : 24 < 2 ^ 13000 := Nat.lt_of_lt_of_le (by decide : 24 < 2 ^ 5) (Nat.pow_le_pow_right (by decide) (by decide))
        walk_at "rd"
        refine ⟨a.length, a, b.length, b, rfl, ⟨ha.pos, Nat.lt_of_le_of_lt la big, fun _ => ⟨rfl, fun c hc => sg_isSg (ha.sg c hc)⟩, fun z => absurd la (by omega)⟩, ⟨hb.pos, Nat.lt_of_le_of_lt lb big, fun _ => ⟨rfl, fun c hc => sg_isSg (hb.sg c hc)⟩, fun z => absurd lb (by omega)⟩, fun p H2 ex2 hp => ?_⟩
        refine r_gtup2 (Evl.st_of hp) ?_
        walk_at "rd"
        refine r_ite (fun h24 => ?_) (fun h24 => ?_)
        · walk_at "rd"
          exact r_mk ((q2 (by omega)).ex (ex1.trans ex2))
        · walk_at "rd"
          rw [tog_ovr (by omega)]
          exact q1 (by omega) H2 (ex1.trans ex2)
      · exact .inr h
    · exact .inr h
end
end Fk

set_option Elab.async false
set_option linter.all false
set_option maxRecDepth 100000
set_option maxHeartbeats 4000000
namespace Fk
open PySem PySem.Spec PyProof.Rows L2 Fg Fm
open Rt hiding rep_len
local macro_rules | `(tactic| walk_at "rd1") => `(tactic| first
  | with_reducible refine r_seq ?_
  | with_reducible refine r_asg ?_
  | with_reducible refine r_gname ?_
  | with_reducible refine r_gsub ?_
  | with_reducible refine r_ret ?_
  | with_reducible refine r_retN ?_
  | with_reducible refine r_next ?_
  | with_reducible refine r_drop ?_
  | with_reducible refine r_ifS ?_
  | with_reducible refine r_if ?_
  | with_reducible refine r_par ?_
  | with_reducible refine r_pair ?_
  | with_reducible refine r_test ?_
  | with_reducible refine r_tB ?_
  | with_reducible refine r_not ?_
  | with_reducible refine r_and ?_
  | with_reducible refine r_or ?_
  | with_reducible refine r_andV ?_
  | with_reducible refine r_orV ?_
  | with_reducible refine r_notV ?_
  | with_reducible refine r_nil ?_
  | with_reducible refine r_cons ?_
  | with_reducible refine r_call ?_
  | with_reducible refine r_callS ?_
  | with_reducible refine r_cb ?_
  | with_reducible refine r_then ?_
  | with_reducible refine r_tup ?_
  | with_reducible refine r_lst ?_
  | with_reducible refine r_sl ?_
  | with_reducible refine r_nopart ?_
  | with_reducible refine r_part ?_
  | with_reducible refine r_lcR1 ?_
  | with_reducible refine r_lcR2 ?_
  | with_reducible refine r_lcL ?_
  | with_reducible refine r_lcT ?_
  | with_reducible refine r_forR1 ?_
  | with_reducible refine r_forR2 ?_
  | with_reducible refine r_forL ?_
  | with_reducible refine r_forT ?_
  | with_reducible refine r_forE ?_
  | with_reducible refine r_strE ?_
  | ((with_reducible refine r_rng1 ?hc ?_); (case hc => omega))
  | ((with_reducible refine r_rng2 ?hc ?_); (case hc => omega))
  | ((with_reducible refine' r_refL ?hc ?_); (case hc => first | assumption | exact Evl.sq_of (by assumption)))
  | ((with_reducible refine' r_refT ?hc ?_); (case hc => first | assumption | exact Evl.st_of (by assumption)))
  | with_reducible refine r_op ?_
  | with_reducible refine r_un ?_
  | with_reducible refine r_chain ?_
  | ((with_reducible refine' r_var ?hv ?_); (case hv => exact rfl))
  | with_reducible refine r_cS ?_
  | with_reducible refine r_cs ?_
  | with_reducible refine r_c ?_
  | with_reducible refine r_yes ?_
  | with_reducible refine r_bm ?_
  | with_reducible refine r_bl ?_
  | with_reducible refine r_in ?_
  | with_reducible refine r_ty ?_
  | with_reducible refine r_I0 ?_
  | ((with_reducible refine r_I ?hc ?_); (case hc => first | assumption | (show (0 : Int) < _; decide) | exact Or.inr ⟨by decide, by decide⟩ | exact Or.inr ⟨by omega, by omega⟩ | exact Or.inl ⟨by decide, by decide⟩ | exact (show CDivW _ _ from ⟨by decide, by decide +kernel⟩) | exact (show CPowW _ _ from ⟨by decide, by decide +kernel⟩) | (show (0 : Int) < _; omega)))
  | with_reducible refine r_U ?_
  | with_reducible refine r_eqI ?_
  | with_reducible refine r_neI ?_
  | with_reducible refine r_eqS ?_
  | with_reducible refine r_neS ?_
  | with_reducible refine r_eqB ?_
  | with_reducible refine r_neB ?_
  | with_reducible refine r_niS ?_
  | with_reducible refine r_inSS ?_
  | ((with_reducible refine r_slSS ?hc ?_); (case hc => first | exact small (by omega) | exact small (by simp; omega)))
  | ((with_reducible refine r_lenS ?hc ?_); (case hc => first | exact small (by omega) | exact small (by simp; omega)))
  | ((with_reducible refine' r_lenL ?hc ?_); (case hc => first | assumption | exact Evl.sq_of (by assumption)))
  | ((with_reducible refine' r_lenT ?hc ?_); (case hc => first | assumption | exact Evl.st_of (by assumption)))
  | ((with_reducible refine' r_ixL ?h1 ?h2 ?h3 ?_); (case h1 => first | assumption | exact Evl.sq_of (by assumption) | exact Evl.sq_of upd_same); (case h2 => first | decide | omega); (case h3 => first | exact rfl | assumption))
  | ((with_reducible refine' r_ixT ?h1 ?h2 ?h3 ?_); (case h1 => first | assumption | exact Evl.st_of (by assumption)); (case h2 => first | decide | omega); (case h3 => first | exact rfl | assumption))
  | with_reducible refine r_T ?_
  | with_reducible refine r_notNn ?_
  | with_reducible refine r_notN_int ?_
  | with_reducible refine r_notN_str ?_
  | with_reducible refine r_notN_ref ?_
  | with_reducible refine r_isNn ?_
  | with_reducible refine r_isN_int ?_
  | with_reducible refine r_isN_str ?_
  | with_reducible refine r_isN_ref ?_
  | ((with_reducible refine' r_isi ?ht ?hk ?_); (case ht => first | exact .base (.int _) | exact .base (.bl _) | exact .base (.str _) | exact .base .non | exact .base (.lst (by assumption)) | exact .base (.tup (by assumption))); (case hk => first | exact kb_int_int | exact kb_int_bool | exact kb_int_str | exact kb_int_list | exact kb_int_tuple | exact kb_bool_int | exact kb_bool_bool | exact kb_bool_str | exact kb_bool_list | exact kb_bool_tuple | exact kb_str_int | exact kb_str_bool | exact kb_str_str | exact kb_str_list | exact kb_str_tuple | exact kb_NoneType_int | exact kb_NoneType_bool | exact kb_NoneType_str | exact kb_NoneType_list | exact kb_NoneType_tuple | exact kb_list_int | exact kb_list_bool | exact kb_list_str | exact kb_list_list | exact kb_list_tuple | exact kb_tuple_int | exact kb_tuple_bool | exact kb_tuple_str | exact kb_tuple_list | exact kb_tuple_tuple))
  | with_reducible refine r_F ?_
  | with_reducible refine r_nT ?_
  | with_reducible refine r_nF ?_
  | with_reducible refine r_mko ?_
  | with_reducible refine r_xf ?_
  | ((with_reducible refine' r_sum ?hc ?_); (case hc => first | assumption | exact Evl.sq_of (by assumption)))
  | ((with_reducible refine' r_setL ?h1 ?h2 ?h3 ?_); (case h1 => first | assumption | exact upd_same); (case h2 => first | decide | omega); (case h3 => first | (show _ < _; decide) | (simp; done)))
  | with_reducible refine r_int ?_
  | with_reducible refine r_abs ?_)
local macro_rules | `(tactic| walk_at "rd") => `(tactic| repeat (walk_at "rd1"))

section
variable {P : Program} {w : World} {K : PySem.W.Frag} {mg : Str → Option Value} {base : Heap}
abbrev wTold : List Nat := [116, 111, 108, 100]
abbrev wLong : List Nat := [108, 111, 110, 103]
abbrev wRound : List Nat := [114, 111, 117, 110, 100]
def spLParting : Sp := fun vs H Q _ => ∃ (a b : List Nat), vs = [.str (S a), .str (S b)] ∧ Rnd a ∧ Rnd b ∧ (∀ t : Nat, PartAt a b t → Q (.int (t : Int)) H) ∧ (Same a b → Q .non H)
abbrev s_l_parting : Stmt := topS 49
abbrev N_l_parting : List Str := ["_law_first", "_law_second", "_law_spot"]
theorem sc_l_parting : FnScope ["_law_first", "_law_second", "_law_spot"] ["_law_first", "_law_second"] (defScope s_l_parting) := ⟨rfl, rfl, rfl, by decide +kernel, rfl, by decide +kernel, by decide +kernel⟩
theorem can_l_parting (T : Bi mg) (F : Defd K mg "_law_parting" s_l_parting ["_law_first", "_law_second"]) : Can P w K mg base L2.CX0 1 "_law_parting" ["_law_first", "_law_second"] spLParting := by
  refine can0 F sc_l_parting (fun vs H Q E h => ?_) (fun f cdv A outer s H vs Q E hr h => ⟨_, (pss_cons (ps_for PassesOwn.never rfl (pi_range1 rfl T.b_range (pa_cons (pe_op op_mul (pe_callB call_lenS (by rfl) T.b_len boot_len (pa_cons (pv 0) pa_nil)) (pe_callB call_lenS (by rfl) T.b_len boot_len (pa_cons (pv 1) pa_nil))) pa_nil)) (pg_name (i := 2) sc_l_parting.nd rfl (by first | exact Or.inl rfl | exact Or.inr rfl))
    (pss_one (ps_if (pt_cmpR op_ne (pe_ix ix_strS (pv 0) (pe_op op_mod (pe_callTy call_intI (by rfl) T.b_int boot_int (pa_cons (pv 2) pa_nil)) (pe_callB call_lenS (by rfl) T.b_len boot_len (pa_cons (pv 0) pa_nil))) (fun _ _ => rfl)) (pe_ix ix_strS (pv 1) (pe_op op_mod (pe_callTy call_intI (by rfl) T.b_int boot_int (pa_cons (pv 2) pa_nil)) (pe_callB call_lenS (by rfl) T.b_len boot_len (pa_cons (pv 1) pa_nil))) (fun _ _ => rfl)) (nomark _)) (pss_one (ps_ret (pv 2))) pss_nil)))
  (pss_one (ps_ret pe_non))), ?_⟩)
  · obtain ⟨_, _, rfl, _⟩ := h
    rfl
  · obtain ⟨a, b, rfl, ha, hb, q1, q2⟩ := h
    have la := ha.le
    have lb := hb.le
    have pa := ha.pos
    have pb := hb.pos
    have h5 : a.length * b.length ≤ 576 := Nat.mul_le_mul la lb
    have h6 : ((a.length : Int) * (b.length : Int)) = ((a.length * b.length : Nat) : Int) := by rw [Int.natCast_mul]
    have hc : CMul (a.length : Int) (b.length : Int) := .inl ⟨by omega, by omega⟩
    have m1 : 1 ≤ a.length * b.length := Nat.mul_pos pa pb
    walk_at "rd"
    refine forR (fun i σ' H' => ∃ x, σ' = [some (.str (S a)), some (.str (S b)), x] ∧ H' = H ∧ ∀ t, t < i → at' a t = at' b t) ⟨none, rfl, rfl, fun t h => by omega⟩ (fun i σ' H' hi hJ => ?_) (fun σ' H' hJ => ?_)
    · obtain ⟨x, rfl, rfl, hJ⟩ := hJ
      walk_at "rd"
      refine r_ixSS (small (by omega)) (Int.emod_nonneg _ (by omega)) (at_int0 ha.ne i) ?_
      walk_at "rd"
      refine r_ixSS (small (by omega)) (Int.emod_nonneg _ (by omega)) (at_int0 hb.ne i) ?_
      walk_at "rd"
      refine r_iteN (fun h => ?_) (fun h => ?_)
      · walk_at "rd"
        rw [Int.zero_add]
        exact q1 i ⟨fun z => h (by rw [z]), hJ⟩
      · walk_at "rd"
        refine ⟨_, rfl, rfl, fun t ht => ?_⟩
        by_cases e : t = i
        · rw [e]
          injection h
        · exact hJ t (by omega)
    · obtain ⟨x, rfl, rfl, hJ⟩ := hJ
      walk_at "rd"
      exact q2 (same_lcm (Nat.dvd_mul_right _ _) (Nat.dvd_mul_left _ _) m1 fun t ht => hJ t (by omega))
def overV (a b : List Nat) : List V := if Nat.lcm a.length b.length ≤ 24 then [.str (S wTold), .str (S (ovr a b))] else [.str (S wLong), .int ((Nat.lcm a.length b.length : Nat) : Int)]
def spOver : Sp := fun vs H Q _ => ∃ (a b : List Nat), vs = [.str (S a), .str (S b)] ∧ Rnd a ∧ Rnd b ∧ ∀ p H', Ex H H' → H' p = some (.tup (overV a b)) → Q (.ref p) H'
theorem ovr_take {a b : List Nat} {i : Nat} : (List.range (i + 1)).map (fun i => if at' a i = 46 then at' b i else at' a i) = (List.range i).map (fun i => if at' a i = 46 then at' b i else at' a i) ++ [if at' a i = 46 then at' b i else at' a i] := range_map _ i
abbrev s_l_over : Stmt := topS 50
abbrev N_l_over : List Str := ["_law_first", "_law_second", "_law_many", "_law_row", "_law_spot", "_law_sign_here"]
theorem sc_l_over : FnScope ["_law_first", "_law_second", "_law_many", "_law_row", "_law_spot", "_law_sign_here"] ["_law_first", "_law_second"] (defScope s_l_over) := ⟨rfl, rfl, rfl, by decide +kernel, rfl, by decide +kernel, by decide +kernel⟩
theorem can_l_over (T : Bi mg) (F : Defd K mg "_law_over" s_l_over ["_law_first", "_law_second"]) : Can P w K mg base L2.CX0 1 "_law_over" ["_law_first", "_law_second"] spOver := by
  refine can0 F sc_l_over (fun vs H Q E h => ?_) (fun f cdv A outer s H vs Q E hr h => ⟨_, (pss_cons (ps_set (i := 2) sc_l_over.nd rfl (by first | exact Or.inl rfl | exact Or.inr rfl) (pe_callB (call_max2 rfl) (by rfl) T.b_max boot_max (pa_cons (pe_callB call_lenS (by rfl) T.b_len boot_len (pa_cons (pv 0) pa_nil)) (pa_cons (pe_callB call_lenS (by rfl) T.b_len boot_len (pa_cons (pv 1) pa_nil)) pa_nil))))
  (pss_cons (ps_while PassesOwn.never (PW.pt (pw_or (pt_cmpR op_ne (pe_op op_mod (pe_callTy call_intI (by rfl) T.b_int boot_int (pa_cons (pv 2) pa_nil)) (pe_callB call_lenS (by rfl) T.b_len boot_len (pa_cons (pv 0) pa_nil))) pe_int (nomark _)) (pw_or1 (pt_cmpR op_ne (pe_op op_mod (pe_callTy call_intI (by rfl) T.b_int boot_int (pa_cons (pv 2) pa_nil)) (pe_callB call_lenS (by rfl) T.b_len boot_len (pa_cons (pv 1) pa_nil))) pe_int (nomark _))))) (pss_one (ps_set (i := 2) sc_l_over.nd rfl (by first | exact Or.inl rfl | exact Or.inr rfl) (pe_op op_add (pv 2) pe_int))))
  (pss_cons (ps_if (pt_cmpR op_gt (pv 2) pe_int (nomark _)) (pss_one (ps_ret (pe_tup (pa_cons (pe_strL [108, 111, 110, 103] (by decide +kernel)) (pa_cons (pv 2) pa_nil))))) pss_nil)
  (pss_cons (ps_set (i := 3) sc_l_over.nd rfl (by first | exact Or.inl rfl | exact Or.inr rfl) (pe_strL [] (by decide +kernel)))
  (pss_cons (ps_for PassesOwn.never rfl (pi_range1 rfl T.b_range (pa_cons (pv 2) pa_nil)) (pg_name (i := 4) sc_l_over.nd rfl (by first | exact Or.inl rfl | exact Or.inr rfl))
    (pss_cons (ps_set (i := 5) sc_l_over.nd rfl (by first | exact Or.inl rfl | exact Or.inr rfl) (pe_ix ix_strS (pv 0) (pe_op op_mod (pe_callTy call_intI (by rfl) T.b_int boot_int (pa_cons (pv 4) pa_nil)) (pe_callB call_lenS (by rfl) T.b_len boot_len (pa_cons (pv 0) pa_nil))) (fun _ _ => rfl)))
  (Evl.pss_cut (ps_if (pt_cmpR op_eq (pv 5) (pe_strL [46] (by decide +kernel)) (nomark _)) (pss_one (ps_set (i := 5) sc_l_over.nd rfl (by first | exact Or.inl rfl | exact Or.inr rfl) (pe_ix ix_strS (pv 1) (pe_op op_mod (pe_callTy call_intI (by rfl) T.b_int boot_int (pa_cons (pv 4) pa_nil)) (pe_callB call_lenS (by rfl) T.b_len boot_len (pa_cons (pv 1) pa_nil))) (fun _ _ => rfl)))) pss_nil)
  (pss_one (ps_set (i := 3) sc_l_over.nd rfl (by first | exact Or.inl rfl | exact Or.inr rfl) (pe_op op_catS (pv 3) (pv 5)))))))
  (pss_one (ps_ret (pe_tup (pa_cons (pe_strL [116, 111, 108, 100] (by decide +kernel)) (pa_cons (pv 3) pa_nil)))))))))), ?_⟩)
  · obtain ⟨_, _, rfl, _⟩ := h
    rfl
  · obtain ⟨a, b, rfl, ha, hb, q⟩ := h
    have la := ha.le
    have lb := hb.le
    have pa := ha.pos
    have pb := hb.pos
    have m1 : 1 ≤ Nat.lcm a.length b.length := Nat.lcm_pos pa pb
    have m2 := lcm_mul_le la lb
    have da := Nat.dvd_lcm_left a.length b.length
    have db := Nat.dvd_lcm_right a.length b.length
    have le1 := Nat.le_of_dvd m1 da
    have le2 := Nat.le_of_dvd m1 db
    have na : (0 : Int) < (a.length : Int) := by omega
    have nb : (0 : Int) < (b.length : Int) := by omega
    have emax : (if (b.length : Int) > (a.length : Int) then (b.length : Int) else (a.length : Int)) = ((max a.length b.length : Nat) : Int) := by split <;> omega
    obtain ⟨mm, hmm⟩ : ∃ mm, mm = Nat.lcm a.length b.length := ⟨_, rfl⟩
    rw [← hmm] at m1 m2 da db le1 le2
    walk_at "rd"
    refine ⟨_, _, rfl, ?_⟩
    walk_at "rd"
    rw [emax]
    refine ⟨fun m σ' H' => ∃ (k : Nat), σ' = [some (.str (S a)), some (.str (S b)), some (.int (k : Int)), none, none, none] ∧ H' = H ∧ m + k = mm ∧ 1 ≤ k, ⟨mm - max a.length b.length, max a.length b.length, rfl, rfl, by omega, by omega⟩, fun m σ' H' hW => ?_⟩
    obtain ⟨k, rfl, rfl, hm, hk⟩ := hW
    have ea : ((k % a.length : Nat) : Int) = (k : Int) % (a.length : Int) := Int.natCast_emod _ _
    have eb : ((k % b.length : Nat) : Int) = (k : Int) % (b.length : Int) := Int.natCast_emod _ _
    have ma : mm % a.length = 0 := Nat.mod_eq_zero_of_dvd da
    have mb : mm % b.length = 0 := Nat.mod_eq_zero_of_dvd db
    walk_at "rd"
    refine r_iteN (fun h1 => ?_) (fun h1 => ?_)
    · have hlt : k < mm := by
        by_cases e : k = mm
        · exfalso; rw [e] at ea h1; omega
        · omega
      refine ⟨fun σ2 H2 => ∃ m', m' < m ∧ ∃ (k : Nat), σ2 = [some (.str (S a)), some (.str (S b)), some (.int (k : Int)), none, none, none] ∧ H2 = H' ∧ m' + k = mm ∧ 1 ≤ k, fun σ2 H2 z => z, ?_⟩
      walk_at "rd"
      exact ⟨m - 1, by omega, k + 1, rfl, rfl, by omega, by omega⟩
    walk_at "rd"
    refine r_iteN (fun h2 => ?_) (fun h2 => ?_)
    · have hlt : k < mm := by
        by_cases e : k = mm
        · exfalso; rw [e] at eb h2; omega
        · omega
      refine ⟨fun σ2 H2 => ∃ m', m' < m ∧ ∃ (k : Nat), σ2 = [some (.str (S a)), some (.str (S b)), some (.int (k : Int)), none, none, none] ∧ H2 = H' ∧ m' + k = mm ∧ 1 ≤ k, fun σ2 H2 z => z, ?_⟩
      walk_at "rd"
      exact ⟨m - 1, by omega, k + 1, rfl, rfl, by omega, by omega⟩
    have kL : k = mm := by
      have g1 : a.length ∣ k := Nat.dvd_of_mod_eq_zero (by omega)
      have g2 : b.length ∣ k := Nat.dvd_of_mod_eq_zero (by omega)
      have g3 := Nat.le_of_dvd (by omega) (Nat.lcm_dvd g1 g2)
      omega
    subst kL
    walk_at "rd"
    refine r_ite (fun h24 => ?_) (fun h24 => ?_)
    · walk_at "rd"
      refine ⟨small (by show 2 ≤ 1000000; decide), fun p hp => ?_⟩
      refine q p _ (Evl.Ex.new hp) ?_
      rw [upd_same]
      unfold overV
      rw [if_neg (by omega), ← hmm]
    · walk_at "rd"
      refine forR (fun i σ' H2 => ∃ o4 o5, σ' = [some (.str (S a)), some (.str (S b)), some (.int (k : Int)), some (.str (S ((List.range i).map fun i => if at' a i = 46 then at' b i else at' a i))), o4, o5] ∧ H2 = H') ⟨_, _, rfl, rfl⟩ (fun i σ' H2 hi hJ => ?_) (fun σ' H2 hJ => ?_)
      · obtain ⟨o4, o5, rfl, rfl⟩ := hJ
        have hi24 : i < 24 := by omega
        walk_at "rd"
        refine r_ixSS (small (by omega)) (Int.emod_nonneg _ (by omega)) (at_int0 ha.ne i) ?_
        walk_at "rd"
        refine r_cut (Mid := fun σ' H3 => σ' = [some (.str (S a)), some (.str (S b)), some (.int (k : Int)), some (.str (S ((List.range i).map fun i => if at' a i = 46 then at' b i else at' a i))), some (.int ((0 : Int) + (i : Int))), some (.str (S [if at' a i = 46 then at' b i else at' a i]))] ∧ H3 = H2) ?_ ?_
        · walk_at "rd"
          refine r_ite (fun h => ?_) (fun h => ?_)
          · have h' : at' a i = 46 := by injection h
            walk_at "rd"
            refine r_ixSS (small (by omega)) (Int.emod_nonneg _ (by omega)) (at_int0 hb.ne i) ?_
            walk_at "rd"
            rw [if_pos h']
            exact ⟨rfl, rfl⟩
          · have h' : at' a i ≠ 46 := fun z => h (by rw [z])
            walk_at "rd"
            rw [if_neg h']
            exact ⟨rfl, rfl⟩
        · rintro σ' H3 ⟨rfl, rfl⟩
          walk_at "rd"
          refine r_catS (small (by rw [List.length_map, List.length_range]; show i + 1 ≤ 1000000; omega)) ?_
          rw [← range_map]
          exact ⟨_, _, rfl, rfl⟩
      · obtain ⟨o4, o5, rfl, rfl⟩ := hJ
        walk_at "rd"
        refine ⟨small (by show 2 ≤ 1000000; decide), fun p hp => ?_⟩
        refine q p _ (Evl.Ex.new hp) ?_
        rw [upd_same, Int.toNat_natCast]
        unfold overV ovr
        rw [if_pos (by omega), ← hmm]
end
end Fk

set_option Elab.async false
set_option linter.all false
set_option maxRecDepth 100000
set_option maxHeartbeats 4000000
namespace Fk
open PySem PySem.Spec PyProof.Rows L2 Fg Fm
open Rt hiding rep_len
local macro_rules | `(tactic| walk_at "rd1") => `(tactic| first
  | with_reducible refine r_seq ?_
  | with_reducible refine r_asg ?_
  | with_reducible refine r_gname ?_
  | with_reducible refine r_gsub ?_
  | with_reducible refine r_ret ?_
  | with_reducible refine r_retN ?_
  | with_reducible refine r_next ?_
  | with_reducible refine r_drop ?_
  | with_reducible refine r_ifS ?_
  | with_reducible refine r_if ?_
  | with_reducible refine r_par ?_
  | with_reducible refine r_pair ?_
  | with_reducible refine r_test ?_
  | with_reducible refine r_tB ?_
  | with_reducible refine r_not ?_
  | with_reducible refine r_and ?_
  | with_reducible refine r_or ?_
  | with_reducible refine r_andV ?_
  | with_reducible refine r_orV ?_
  | with_reducible refine r_notV ?_
  | with_reducible refine r_nil ?_
  | with_reducible refine r_cons ?_
  | with_reducible refine r_call ?_
  | with_reducible refine r_callS ?_
  | with_reducible refine r_cb ?_
  | with_reducible refine r_then ?_
  | with_reducible refine r_tup ?_
  | with_reducible refine r_lst ?_
  | with_reducible refine r_sl ?_
  | with_reducible refine r_nopart ?_
  | with_reducible refine r_part ?_
  | with_reducible refine r_lcR1 ?_
  | with_reducible refine r_lcR2 ?_
  | with_reducible refine r_lcL ?_
  | with_reducible refine r_lcT ?_
  | with_reducible refine r_forR1 ?_
  | with_reducible refine r_forR2 ?_
  | with_reducible refine r_forL ?_
  | with_reducible refine r_forT ?_
  | with_reducible refine r_forE ?_
  | with_reducible refine r_strE ?_
  | ((with_reducible refine r_rng1 ?hc ?_); (case hc => omega))
  | ((with_reducible refine r_rng2 ?hc ?_); (case hc => omega))
  | ((with_reducible refine' r_refL ?hc ?_); (case hc => first | assumption | exact Evl.sq_of (by assumption)))
  | ((with_reducible refine' r_refT ?hc ?_); (case hc => first | assumption | exact Evl.st_of (by assumption)))
  | with_reducible refine r_op ?_
  | with_reducible refine r_un ?_
  | with_reducible refine r_chain ?_
  | ((with_reducible refine' r_var ?hv ?_); (case hv => exact rfl))
  | with_reducible refine r_cS ?_
  | with_reducible refine r_cs ?_
  | with_reducible refine r_c ?_
  | with_reducible refine r_yes ?_
  | with_reducible refine r_bm ?_
  | with_reducible refine r_bl ?_
  | with_reducible refine r_in ?_
  | with_reducible refine r_ty ?_
  | with_reducible refine r_I0 ?_
  | ((with_reducible refine r_I ?hc ?_); (case hc => first | assumption | (show (0 : Int) < _; decide) | exact Or.inr ⟨by decide, by decide⟩ | exact Or.inr ⟨by omega, by omega⟩ | exact Or.inl ⟨by decide, by decide⟩ | exact (show CDivW _ _ from ⟨by decide, by decide +kernel⟩) | exact (show CPowW _ _ from ⟨by decide, by decide +kernel⟩) | (show (0 : Int) < _; omega)))
  | with_reducible refine r_U ?_
  | with_reducible refine r_eqI ?_
  | with_reducible refine r_neI ?_
  | with_reducible refine r_eqS ?_
  | with_reducible refine r_neS ?_
  | with_reducible refine r_eqB ?_
  | with_reducible refine r_neB ?_
  | with_reducible refine r_niS ?_
  | with_reducible refine r_inSS ?_
  | ((with_reducible refine r_slSS ?hc ?_); (case hc => first | exact small (by omega) | exact small (by simp; omega)))
  | ((with_reducible refine r_lenS ?hc ?_); (case hc => first | exact small (by omega) | exact small (by simp; omega)))
  | ((with_reducible refine' r_lenL ?hc ?_); (case hc => first | assumption | exact Evl.sq_of (by assumption)))
  | ((with_reducible refine' r_lenT ?hc ?_); (case hc => first | assumption | exact Evl.st_of (by assumption)))
  | ((with_reducible refine' r_ixL ?h1 ?h2 ?h3 ?_); (case h1 => first | assumption | exact Evl.sq_of (by assumption) | exact Evl.sq_of upd_same); (case h2 => first | decide | omega); (case h3 => first | exact rfl | assumption))
  | ((with_reducible refine' r_ixT ?h1 ?h2 ?h3 ?_); (case h1 => first | assumption | exact Evl.st_of (by assumption)); (case h2 => first | decide | omega); (case h3 => first | exact rfl | assumption))
  | with_reducible refine r_T ?_
  | with_reducible refine r_notNn ?_
  | with_reducible refine r_notN_int ?_
  | with_reducible refine r_notN_str ?_
  | with_reducible refine r_notN_ref ?_
  | with_reducible refine r_isNn ?_
  | with_reducible refine r_isN_int ?_
  | with_reducible refine r_isN_str ?_
  | with_reducible refine r_isN_ref ?_
  | ((with_reducible refine' r_isi ?ht ?hk ?_); (case ht => first | exact .base (.int _) | exact .base (.bl _) | exact .base (.str _) | exact .base .non | exact .base (.lst (by assumption)) | exact .base (.tup (by assumption))); (case hk => first | exact kb_int_int | exact kb_int_bool | exact kb_int_str | exact kb_int_list | exact kb_int_tuple | exact kb_bool_int | exact kb_bool_bool | exact kb_bool_str | exact kb_bool_list | exact kb_bool_tuple | exact kb_str_int | exact kb_str_bool | exact kb_str_str | exact kb_str_list | exact kb_str_tuple | exact kb_NoneType_int | exact kb_NoneType_bool | exact kb_NoneType_str | exact kb_NoneType_list | exact kb_NoneType_tuple | exact kb_list_int | exact kb_list_bool | exact kb_list_str | exact kb_list_list | exact kb_list_tuple | exact kb_tuple_int | exact kb_tuple_bool | exact kb_tuple_str | exact kb_tuple_list | exact kb_tuple_tuple))
  | with_reducible refine r_F ?_
  | with_reducible refine r_nT ?_
  | with_reducible refine r_nF ?_
  | with_reducible refine r_mko ?_
  | with_reducible refine r_xf ?_
  | ((with_reducible refine' r_sum ?hc ?_); (case hc => first | assumption | exact Evl.sq_of (by assumption)))
  | ((with_reducible refine' r_setL ?h1 ?h2 ?h3 ?_); (case h1 => first | assumption | exact upd_same); (case h2 => first | decide | omega); (case h3 => first | (show _ < _; decide) | (simp; done)))
  | with_reducible refine r_int ?_
  | with_reducible refine r_abs ?_)
local macro_rules | `(tactic| walk_at "rd") => `(tactic| repeat (walk_at "rd1"))

section
variable {P : Program} {w : World} {K : PySem.W.Frag} {mg : Str → Option Value} {base : Heap}
theorem r_lstRg {σ : L2.St} {H : Hp} {Q : VK} {ta : TE} (q : ta σ H fun x H1 => ∃ n, x = .int n ∧ RgOk 0 n ∧ ∀ q, H1 q = none → Q (.ref q) (upd H1 q (.lst (rgV 0 n)))) : tLstRg (tRg1 ta) σ H Q := q
theorem ix_listK {X : Cx} {K : PySem.W.Frag} (h : X.K = K) : IxR X (rIxL K) := h ▸ ix_list
def spTwoR (n1 n2 : Nat) : Sp := fun vs H Q _ => True
def spAgreeing : Sp := fun vs H Q _ => ∃ (c d : Addr) (one two : Nat) (many : Int) (ns : List Int), vs = [.ref d, .int (one : Int), .int (two : Int), .int many] ∧ Dr ns c d H ∧ 1 ≤ one ∧ one ≤ 24 ∧ 1 ≤ two ∧ two ≤ 24 ∧ 0 ≤ many ∧ many ≤ 100 ∧
  ∀ (a b : List Nat) p H', Rnd a → Rnd b → Kp d H H' → Dr ns c d H' → p ≠ d → H' p = some (.lst [.str (S a), .str (S b)]) → Q (.ref p) H'
/-- labels: n numbers below n -/
def Labels (n : Nat) (xs : List Int) : Prop := xs.length = n ∧ ∀ x ∈ xs, 0 ≤ x ∧ x < (n : Int)
theorem Labels.get {n : Nat} {xs : List Int} (h : Labels n xs) {i : Nat} (hi : i < n) : ∃ x, (xs.map V.int)[i]? = some (.int x) ∧ 0 ≤ x ∧ x < (n : Int) := by
  have h1 : i < xs.length := by rw [h.1]; exact hi
  refine ⟨xs[i], ?_, h.2 _ (List.getElem_mem h1)⟩
  rw [List.getElem?_map, List.getElem?_eq_getElem h1]
  rfl
theorem labels_range (n : Nat) : ∃ xs, rgV 0 (n : Int) = xs.map V.int ∧ Labels n xs := by
  refine ⟨(List.range n).map fun i => ((i : Nat) : Int), ?_, by rw [List.length_map, List.length_range], fun x hx => ?_⟩
  · unfold rgV
    rw [List.map_map, show ((n : Int) - 0).toNat = n by omega]
    apply List.map_congr_left
    intro i _
    show V.int (0 + (i : Int)) = V.int (i : Int)
    rw [Int.zero_add]
  · obtain ⟨i, hi, rfl⟩ := List.mem_map.mp hx
    have := List.mem_range.mp hi
    omega
abbrev s_l_agreeing : Stmt := topS 47
abbrev N_l_agreeing : List Str := ["_law_draw_here", "_law_one", "_law_two", "_law_many", "_law_lot", "_law_spot", "_law_signs", "_law_row", "_law_first", "_law_second", "_law_label"]
theorem sc_l_agreeing : FnScope ["_law_draw_here", "_law_one", "_law_two", "_law_many", "_law_lot", "_law_spot", "_law_signs", "_law_row", "_law_first", "_law_second", "_law_label"] ["_law_draw_here", "_law_one", "_law_two", "_law_many"] (defScope s_l_agreeing) := ⟨rfl, rfl, rfl, by decide +kernel, rfl, by decide +kernel, by decide +kernel⟩
theorem can_l_agreeing (T : Bi mg) (F : Defd K mg "_law_agreeing" s_l_agreeing ["_law_draw_here", "_law_one", "_law_two", "_law_many"]) (C_l_sign : Can P w K mg base L2.CX0 3 "_law_sign" ["_law_draw_here"] spSign) : Can P w K mg base L2.CX0 4 "_law_agreeing" ["_law_draw_here", "_law_one", "_law_two", "_law_many"] spAgreeing := by
  refine can0 F sc_l_agreeing (fun vs H Q E h => ?_) (fun f cdv A outer s H vs Q E hr h => ⟨_, (pss_cons (ps_set (i := 4) sc_l_agreeing.nd rfl (by first | exact Or.inl rfl | exact Or.inr rfl) (pe_listRg rfl (by rfl) T.b_list (prg_1 (by rfl) T.b_range (pe_op op_add (pv 1) (pv 2)))))
  (pss_cons (ps_for PassesOwn.never rfl (pi_range1 rfl T.b_range (pa_cons (pv 3) pa_nil)) (pg_name (i := 5) sc_l_agreeing.nd rfl (by first | exact Or.inl rfl | exact Or.inr rfl))
    (pss_cons (ps_set (i := 8) sc_l_agreeing.nd rfl (by first | exact Or.inl rfl | exact Or.inr rfl) (pe_ix ix_list (pv 4) (pe_op op_mod (pe_callTy call_intI (by rfl) T.b_int boot_int (pa_cons (pv 5) pa_nil)) (pv 1)) (fun _ _ => rfl)))
  (pss_cons (ps_set (i := 9) sc_l_agreeing.nd rfl (by first | exact Or.inl rfl | exact Or.inr rfl) (pe_ix ix_list (pv 4) (pe_op op_add (pv 1) (pe_op op_mod (pe_callTy call_intI (by rfl) T.b_int boot_int (pa_cons (pv 5) pa_nil)) (pv 2))) (fun _ _ => rfl)))
  (pss_one (ps_setLc (i := 4) (own := [("_law_label", 10)]) (g := gName 10) (tt := tYes) rfl sc_l_agreeing.nd rfl rfl (sw_true rfl rfl rfl (by decide +kernel)) (pi_list (pv 4)) (blkOk_by (N := N_l_agreeing) (sc := defScope s_l_agreeing) (by decide +kernel)) (fun _ _ _ _ _ => pg_name (i := 10) sc_l_agreeing.nd rfl (Or.inl rfl)) (fun _ _ _ _ _ => pts_nil) (fun _ _ _ _ _ => (pe_ix (ix_listK (K := K) rfl) (pe_lst (pa_cons (pv 10) (pa_cons (pv 8) pa_nil))) (pe_callTy call_int1 (by rfl) T.b_int boot_int (pa_cons (pe_cmpR op_eq (pv 10) (pv 9) (nomark _)) pa_nil)) (fun _ _ => rfl))))))))
  (pss_cons (ps_set (i := 6) sc_l_agreeing.nd rfl (by first | exact Or.inl rfl | exact Or.inr rfl) (pe_lc (own := [("_law_label", 10)]) (g := gName 10) (tt := tYes) rfl sc_l_agreeing.nd (pi_list (pv 4)) (blkOk_by (N := N_l_agreeing) (sc := defScope s_l_agreeing) (by decide +kernel)) (fun _ _ _ _ _ => pg_name (i := 10) sc_l_agreeing.nd rfl (Or.inl rfl)) (fun _ _ _ _ _ => pts_nil) (fun _ _ _ _ _ => (pe_can C_l_sign hr (by decide) rfl (pa_cons (pv 0) pa_nil)))))
  (pss_cons (ps_set (i := 7) sc_l_agreeing.nd rfl (by first | exact Or.inl rfl | exact Or.inr rfl) (pe_bm PySem.F.plainAttrs_str PySem.F.slot_str_join PySem.F.type_str_join mt_joinS (pe_strL [] (by decide +kernel)) (pa_cons (pe_lc (own := [("_law_label", 10)]) (g := gName 10) (tt := tYes) rfl sc_l_agreeing.nd (pi_list (pv 4)) (blkOk_by (N := N_l_agreeing) (sc := defScope s_l_agreeing) (by decide +kernel)) (fun _ _ _ _ _ => pg_name (i := 10) sc_l_agreeing.nd rfl (Or.inl rfl)) (fun _ _ _ _ _ => pts_nil) (fun _ _ _ _ _ => (pe_ix (ix_listK (K := K) rfl) (pv 6) (pv 10) (fun _ _ => rfl)))) pa_nil)))
  (pss_one (ps_ret (pe_lst (pa_cons (pe_slice sl_strS (pv 7) po_none (po_some (pv 1))) (pa_cons (pe_slice sl_strS (pv 7) (po_some (pv 1)) po_none) pa_nil))))))))), ?_⟩)
  · obtain ⟨_, _, _, _, _, _, rfl, _⟩ := h
    rfl
  · obtain ⟨c, d, one, two, many, ns, rfl, hD, o1, o2, t1, t2, m0, m1, q⟩ := h
    have no : (0 : Int) < (one : Int) := by omega
    have nt : (0 : Int) < (two : Int) := by omega
    walk_at "rd"
    refine r_lstRg ?_
    walk_at "rd"
    refine ⟨RgOk.of_le (by decide) (by omega) (by decide) (by omega), fun L0 hL0 => ?_⟩
    obtain ⟨xs0, e0, lab0⟩ := labels_range (one + two)
    have exL := Evl.Ex.new (o := .lst (rgV 0 ((one : Int) + (two : Int)))) hL0
    have gL : (upd H L0 (.lst (rgV 0 ((one : Int) + (two : Int))))) L0 = some (.lst (xs0.map V.int)) := by
      rw [upd_same, ← e0, Int.natCast_add]
    generalize upd H L0 (.lst (rgV 0 ((one : Int) + (two : Int)))) = H1 at exL gL ⊢
    walk_at "rd"
    refine forR (fun i σ' H' => ∃ (L : Addr) (xs : List Int) (o5 o8 o9 o10 : Option V), σ' = [some (.ref d), some (.int (one : Int)), some (.int (two : Int)), some (.int many), some (.ref L), o5, none, none, o8, o9, o10] ∧ Ex H H' ∧ H' L = some (.lst (xs.map V.int)) ∧ Labels (one + two) xs) ⟨L0, xs0, _, _, _, _, rfl, exL, gL, lab0⟩ (fun i σ' H2 hi hJ => ?_) (fun σ' H2 hJ => ?_)
    · obtain ⟨L, xs, o5, o8, o9, o10, rfl, ex, hL, lab⟩ := hJ
      have e1 : ((0 : Int) + (i : Int)) % (one : Int) = ((i % one : Nat) : Int) := by rw [Int.zero_add, Int.natCast_emod]
      have e2 : ((0 : Int) + (i : Int)) % (two : Int) = ((i % two : Nat) : Int) := by rw [Int.zero_add, Int.natCast_emod]
      have l1 := Nat.mod_lt i (show 0 < one by omega)
      have l2 := Nat.mod_lt i (show 0 < two by omega)
      obtain ⟨fi, hfi, f0, f1⟩ := lab.get (i := i % one) (by omega)
      obtain ⟨se, hse, s0, s1⟩ := lab.get (i := one + i % two) (by omega)
      walk_at "rd"
      rw [e1]
      refine r_ixL (Evl.sq_of hL) (by omega) (by rw [Int.toNat_natCast]; exact hfi) ?_
      walk_at "rd"
      rw [e2]
      refine r_ixL (Evl.sq_of hL) (by omega) (by rw [show ((one : Int) + ((i % two : Nat) : Int)).toNat = one + i % two by omega]; exact hse) ?_
      walk_at "rd"
      refine lcL (xs := xs.map V.int) (fun D j acc H' => Ex H2 H' ∧ ∃ ys : List Int, acc = ys.map V.int ∧ ys.length = j ∧ ∀ x ∈ ys, 0 ≤ x ∧ x < ((one + two : Nat) : Int)) (fun _ => rfl) (fun D hDn => ⟨Evl.Ex.new hDn, [], rfl, rfl, fun x hx => nomatch hx⟩) (fun D j H' acc hDn hJ => Evl.sq_of (hJ.1 _ _ hL))
        (fun D j x H3 acc hDn hx e3 hl3 hJ => ?_) (fun D H3 acc hDn e3 hJ => ?_)
      · obtain ⟨ex3, ys, rfl, hyl, hys⟩ := hJ
        have hj := lt_of_get hx
        rw [List.length_map, lab.1] at hj
        obtain ⟨la, hla, la0, la1⟩ := lab.get (i := j) hj
        rw [hla] at hx
        cases hx
        walk_at "rd"
        refine ⟨small (by show 2 ≤ 1000000; decide), fun G hG => ?_⟩
        have exG := Evl.Ex.new (o := .lst [.int la, .int fi]) hG
        have gG : (upd H3 G (.lst [.int la, .int fi])) G = some (.lst [.int la, .int fi]) := upd_same
        generalize upd H3 G (.lst [.int la, .int fi]) = H4 at exG gG ⊢
        walk_at "rd"
        refine .inr ⟨_, rfl, ?_⟩
        have fin : ∀ z : Int, 0 ≤ z → z < ((one + two : Nat) : Int) → ∃ acc, H4 D = some (.lst acc) ∧ acc.length < sizeLine ∧ LcI (fun D j acc H' => Ex H2 H' ∧ ∃ ys : List Int, acc = ys.map V.int ∧ ys.length = j ∧ ∀ x ∈ ys, 0 ≤ x ∧ x < ((one + two : Nat) : Int)) D (j + 1) (upd H4 D (.lst (acc ++ [.int z]))) := by
          intro z z0 z1
          refine lc_end (by omega) hl3 (exG _ _ e3) ⟨(ex3.trans exG).mut hDn, ys ++ [z], by rw [List.map_append]; rfl, by rw [List.length_append, hyl]; rfl, fun x hx => ?_⟩
          rcases List.mem_append.mp hx with w | w
          · exact hys x w
          · have : x = z := by simpa using w
            rw [this]; exact ⟨z0, z1⟩
        by_cases hb : la = se
        · rw [decide_eq_true hb]
          exact r_ixL (Evl.sq_of gG) (by decide) rfl (fin fi f0 f1)
        · rw [decide_eq_false hb]
          exact r_ixL (Evl.sq_of gG) (by decide) rfl (fin la la0 la1)
      · obtain ⟨ex3, ys, rfl, hyl, hys⟩ := hJ
        rw [List.length_map, lab.1] at hyl
        walk_at "rd"
        exact ⟨D, ys, _, _, _, _, rfl, ex.trans ex3, e3, hyl, hys⟩
    · obtain ⟨L, xs, o5, o8, o9, o10, rfl, ex, hL, lab⟩ := hJ
      have hD2 := hD.ex' ex
      have Ld : L ≠ d := fun z => by
        rw [z] at hL
        obtain ⟨i, m, big, cnt, b, e, r⟩ := hD2.ex
        rw [hL] at e
        have e2 : xs.map V.int = [.ref c, .int i, .int big, .int cnt, .int m, .int b] := by
          injection e with e
          injection e
        cases xs with
        | nil => cases e2
        | cons x xs => cases e2
      walk_at "rd"
      refine lcL (xs := xs.map V.int) (fun D j acc H' => D ≠ c ∧ D ≠ d ∧ Kp d H2 H' ∧ Dr ns c d H' ∧ ∃ l, acc = l.map (fun x => V.str (S [x])) ∧ AllSg l ∧ l.length = j) (fun _ => rfl) (fun D hDn => ⟨hD2.nc hDn, hD2.nd hDn, Kp.new hDn, hD2.mut (hD2.nc hDn) (hD2.nd hDn), [], rfl, (fun _ h => nomatch h), rfl⟩) (fun D j H' acc hDn hJ => Evl.sq_of (hJ.2.2.1 _ _ Ld hL))
        (fun D j x H3 acc hDn hx e3 hl3 hJ => ?_) (fun D H3 acc hDn e3 hJ => ?_)
      · obtain ⟨nc, nd, k2, hD3, l, rfl, hs, hl⟩ := hJ
        have hj := lt_of_get hx
        rw [List.length_map, lab.1] at hj
        walk_at "rd"
        refine ⟨c, d, ns, rfl, hD3, fun ch H4 hch k4 hD4 => ?_⟩
        refine lc_end (by omega) hl3 (k4 _ _ nd e3) ⟨nc, nd, (k2.trans k4).mut hDn, hD4.mut nc nd, l ++ [ch], by rw [List.map_append]; rfl, fun y hy => ?_, by rw [List.length_append, hl]; rfl⟩
        rcases List.mem_append.mp hy with hy | hy
        · exact hs y hy
        · rw [List.mem_singleton.mp hy]; exact hch
      obtain ⟨nc, nd, k3, hD3, l, rfl, hs, hl⟩ := hJ
      rw [List.length_map, lab.1] at hl
      have hL3 := k3 _ _ Ld hL
      walk_at "rd"
      refine lcL (xs := xs.map V.int) (fun D2 j acc H' => Ex H3 H' ∧ ∃ m, acc = m.map (fun x => V.str (S [x])) ∧ AllSg m ∧ m.length = j) (fun _ => rfl) (fun D2 hDn => ⟨Evl.Ex.new hDn, [], rfl, (fun _ h => nomatch h), rfl⟩) (fun D2 j H' acc hDn hJ => Evl.sq_of (hJ.1 _ _ hL3))
        (fun D2 j x H4 acc hDn2 hx e4 hl4 hJ => ?_) (fun D2 H4 acc hDn2 e4 hJ => ?_)
      · obtain ⟨ex4, m, rfl, hm, hml⟩ := hJ
        have hj := lt_of_get hx
        rw [List.length_map, lab.1] at hj
        obtain ⟨la, hla, la0, la1⟩ := lab.get (i := j) hj
        rw [hla] at hx
        cases hx
        have hlt : la.toNat < l.length := by omega
        walk_at "rd"
        refine r_ixL (v := .str (S [l[la.toNat]])) (Evl.sq_of (ex4 _ _ e3)) la0 (by rw [List.getElem?_map, List.getElem?_eq_getElem hlt]; rfl) ?_
        refine lc_end (by omega) hl4 e4 ⟨ex4.mut hDn2, m ++ [l[la.toNat]], by rw [List.map_append]; rfl, fun y hy => ?_, by rw [List.length_append, hml]; rfl⟩
        rcases List.mem_append.mp hy with hy | hy
        · exact hm y hy
        · rw [List.mem_singleton.mp hy]; exact hs _ (List.getElem_mem hlt)
      obtain ⟨ex4, m, rfl, hm, hml⟩ := hJ
      rw [List.length_map, lab.1] at hml
      walk_at "rd"
      refine r_joinC (Evl.sq_of e4) (by omega) ?_
      walk_at "rd"
      rw [cut_to (by omega), cut_from (by omega), Int.toNat_natCast]
      refine ⟨small (by show 2 ≤ 1000000; decide), fun p hp => ?_⟩
      have hD4 := hD3.ex' ex4
      have exP := Evl.Ex.new (o := .lst [.str (S (m.take one)), .str (S (m.drop one))]) hp
      exact q _ _ p _ ⟨sg_take _ hm, by rw [List.length_take]; omega, by rw [List.length_take]; omega⟩ ⟨sg_drop _ hm, by rw [List.length_drop]; omega, by rw [List.length_drop]; omega⟩ (((Kp.of ex).trans k3).trans (Kp.of (ex4.trans exP))) (hD4.ex' exP) (hD4.nd hp) upd_same
end
end Fk

set_option Elab.async false
set_option linter.all false
set_option maxRecDepth 100000
set_option maxHeartbeats 4000000
namespace Fk
open PySem PySem.Spec PyProof.Rows L2 Fg Fm
open Rt hiding rep_len
local macro_rules | `(tactic| walk_at "rd1") => `(tactic| first
  | with_reducible refine r_seq ?_
  | with_reducible refine r_asg ?_
  | with_reducible refine r_gname ?_
  | with_reducible refine r_gsub ?_
  | with_reducible refine r_ret ?_
  | with_reducible refine r_retN ?_
  | with_reducible refine r_next ?_
  | with_reducible refine r_drop ?_
  | with_reducible refine r_ifS ?_
  | with_reducible refine r_if ?_
  | with_reducible refine r_par ?_
  | with_reducible refine r_pair ?_
  | with_reducible refine r_test ?_
  | with_reducible refine r_tB ?_
  | with_reducible refine r_not ?_
  | with_reducible refine r_and ?_
  | with_reducible refine r_or ?_
  | with_reducible refine r_andV ?_
  | with_reducible refine r_orV ?_
  | with_reducible refine r_notV ?_
  | with_reducible refine r_nil ?_
  | with_reducible refine r_cons ?_
  | with_reducible refine r_call ?_
  | with_reducible refine r_callS ?_
  | with_reducible refine r_cb ?_
  | with_reducible refine r_then ?_
  | with_reducible refine r_tup ?_
  | with_reducible refine r_lst ?_
  | with_reducible refine r_sl ?_
  | with_reducible refine r_nopart ?_
  | with_reducible refine r_part ?_
  | with_reducible refine r_lcR1 ?_
  | with_reducible refine r_lcR2 ?_
  | with_reducible refine r_lcL ?_
  | with_reducible refine r_lcT ?_
  | with_reducible refine r_forR1 ?_
  | with_reducible refine r_forR2 ?_
  | with_reducible refine r_forL ?_
  | with_reducible refine r_forT ?_
  | with_reducible refine r_forE ?_
  | with_reducible refine r_strE ?_
  | ((with_reducible refine r_rng1 ?hc ?_); (case hc => omega))
  | ((with_reducible refine r_rng2 ?hc ?_); (case hc => omega))
  | ((with_reducible refine' r_refL ?hc ?_); (case hc => first | assumption | exact Evl.sq_of (by assumption)))
  | ((with_reducible refine' r_refT ?hc ?_); (case hc => first | assumption | exact Evl.st_of (by assumption)))
  | with_reducible refine r_op ?_
  | with_reducible refine r_un ?_
  | with_reducible refine r_chain ?_
  | ((with_reducible refine' r_var ?hv ?_); (case hv => exact rfl))
  | with_reducible refine r_cS ?_
  | with_reducible refine r_cs ?_
  | with_reducible refine r_c ?_
  | with_reducible refine r_yes ?_
  | with_reducible refine r_bm ?_
  | with_reducible refine r_bl ?_
  | with_reducible refine r_in ?_
  | with_reducible refine r_ty ?_
  | with_reducible refine r_I0 ?_
  | ((with_reducible refine r_I ?hc ?_); (case hc => first | assumption | (show (0 : Int) < _; decide) | exact Or.inr ⟨by decide, by decide⟩ | exact Or.inr ⟨by omega, by omega⟩ | exact Or.inl ⟨by decide, by decide⟩ | exact (show CDivW _ _ from ⟨by decide, by decide +kernel⟩) | exact (show CPowW _ _ from ⟨by decide, by decide +kernel⟩) | (show (0 : Int) < _; omega)))
  | with_reducible refine r_U ?_
  | with_reducible refine r_eqI ?_
  | with_reducible refine r_neI ?_
  | with_reducible refine r_eqS ?_
  | with_reducible refine r_neS ?_
  | with_reducible refine r_eqB ?_
  | with_reducible refine r_neB ?_
  | with_reducible refine r_niS ?_
  | with_reducible refine r_inSS ?_
  | ((with_reducible refine r_slSS ?hc ?_); (case hc => first | exact small (by omega) | exact small (by simp; omega)))
  | ((with_reducible refine r_lenS ?hc ?_); (case hc => first | exact small (by omega) | exact small (by simp; omega)))
  | ((with_reducible refine' r_lenL ?hc ?_); (case hc => first | assumption | exact Evl.sq_of (by assumption)))
  | ((with_reducible refine' r_lenT ?hc ?_); (case hc => first | assumption | exact Evl.st_of (by assumption)))
  | ((with_reducible refine' r_ixL ?h1 ?h2 ?h3 ?_); (case h1 => first | assumption | exact Evl.sq_of (by assumption) | exact Evl.sq_of upd_same); (case h2 => first | decide | omega); (case h3 => first | exact rfl | assumption))
  | ((with_reducible refine' r_ixT ?h1 ?h2 ?h3 ?_); (case h1 => first | assumption | exact Evl.st_of (by assumption)); (case h2 => first | decide | omega); (case h3 => first | exact rfl | assumption))
  | with_reducible refine r_T ?_
  | with_reducible refine r_notNn ?_
  | with_reducible refine r_notN_int ?_
  | with_reducible refine r_notN_str ?_
  | with_reducible refine r_notN_ref ?_
  | with_reducible refine r_isNn ?_
  | with_reducible refine r_isN_int ?_
  | with_reducible refine r_isN_str ?_
  | with_reducible refine r_isN_ref ?_
  | ((with_reducible refine' r_isi ?ht ?hk ?_); (case ht => first | exact .base (.int _) | exact .base (.bl _) | exact .base (.str _) | exact .base .non | exact .base (.lst (by assumption)) | exact .base (.tup (by assumption))); (case hk => first | exact kb_int_int | exact kb_int_bool | exact kb_int_str | exact kb_int_list | exact kb_int_tuple | exact kb_bool_int | exact kb_bool_bool | exact kb_bool_str | exact kb_bool_list | exact kb_bool_tuple | exact kb_str_int | exact kb_str_bool | exact kb_str_str | exact kb_str_list | exact kb_str_tuple | exact kb_NoneType_int | exact kb_NoneType_bool | exact kb_NoneType_str | exact kb_NoneType_list | exact kb_NoneType_tuple | exact kb_list_int | exact kb_list_bool | exact kb_list_str | exact kb_list_list | exact kb_list_tuple | exact kb_tuple_int | exact kb_tuple_bool | exact kb_tuple_str | exact kb_tuple_list | exact kb_tuple_tuple))
  | with_reducible refine r_F ?_
  | with_reducible refine r_nT ?_
  | with_reducible refine r_nF ?_
  | with_reducible refine r_mko ?_
  | with_reducible refine r_xf ?_
  | ((with_reducible refine' r_sum ?hc ?_); (case hc => first | assumption | exact Evl.sq_of (by assumption)))
  | ((with_reducible refine' r_setL ?h1 ?h2 ?h3 ?_); (case h1 => first | assumption | exact upd_same); (case h2 => first | decide | omega); (case h3 => first | (show _ < _; decide) | (simp; done)))
  | with_reducible refine r_int ?_
  | with_reducible refine r_abs ?_)
local macro_rules | `(tactic| walk_at "rd") => `(tactic| repeat (walk_at "rd1"))

section
variable {P : Program} {w : World} {K : PySem.W.Frag} {mg : Str → Option Value} {base : Heap}
abbrev s_l_two_rounds : Stmt := topS 48
abbrev N_l_two_rounds : List Str := ["_law_draw_here", "_law_kind", "_law_most", "_law_one", "_law_two", "_law_row"]
theorem sc_l_two_rounds : FnScope ["_law_draw_here", "_law_kind", "_law_most", "_law_one", "_law_two", "_law_row"] ["_law_draw_here"] (defScope s_l_two_rounds) := ⟨rfl, rfl, rfl, by decide +kernel, rfl, by decide +kernel, by decide +kernel⟩
theorem can_l_two_rounds (T : Bi mg) (F : Defd K mg "_law_two_rounds" s_l_two_rounds ["_law_draw_here"]) (C_l_pick : Can P w K mg base L2.CX0 2 "_law_pick" ["_law_draw_here", "_law_many"] spPick) (C_l_round : Can P w K mg base L2.CX0 4 "_law_round" ["_law_draw_here", "_law_most"] spRound) (C_l_bent : Can P w K mg base L2.CX0 4 "_law_bent" ["_law_draw_here", "_law_row"] spBent) (C_l_agreeing : Can P w K mg base L2.CX0 4 "_law_agreeing" ["_law_draw_here", "_law_one", "_law_two", "_law_many"] spAgreeing) : Can P w K mg base L2.CX0 5 "_law_two_rounds" ["_law_draw_here"] spRounds := by
  refine can0 F sc_l_two_rounds (fun vs H Q E h => ?_) (fun f cdv A outer s H vs Q E hr h => ⟨_, (pss_cons (ps_set (i := 1) sc_l_two_rounds.nd rfl (by first | exact Or.inl rfl | exact Or.inr rfl) (pe_can C_l_pick hr (by decide) rfl (pa_cons (pv 0) (pa_cons pe_int pa_nil))))
  (pss_cons (ps_if (pt_cmpR op_eq (pv 1) pe_int (nomark _)) (pss_one (ps_ret (pe_lst (pa_cons (pe_can C_l_round hr (by decide) rfl (pa_cons (pv 0) (pa_cons pe_int pa_nil))) (pa_cons (pe_can C_l_round hr (by decide) rfl (pa_cons (pv 0) (pa_cons pe_int pa_nil))) pa_nil))))) pss_nil)
  (pss_cons (ps_if (pt_cmpR op_eq (pv 1) pe_int (nomark _)) (pss_cons (ps_set (i := 5) sc_l_two_rounds.nd rfl (by first | exact Or.inl rfl | exact Or.inr rfl) (pe_can C_l_round hr (by decide) rfl (pa_cons (pv 0) (pa_cons pe_int pa_nil))))
  (pss_one (ps_ret (pe_lst (pa_cons (pv 5) (pa_cons (pe_slice sl_strS (pe_can C_l_bent hr (by decide) rfl (pa_cons (pv 0) (pa_cons (pe_op op_repS (pv 5) (pe_op op_add pe_int (pe_can C_l_pick hr (by decide) rfl (pa_cons (pv 0) (pa_cons pe_int pa_nil))))) pa_nil))) po_none (po_some pe_int)) pa_nil)))))) pss_nil)
  (pss_cons (ps_set (i := 2) sc_l_two_rounds.nd rfl (by first | exact Or.inl rfl | exact Or.inr rfl) (pe_ix ix_list (pe_lst (pa_cons pe_int (pa_cons pe_int (pa_cons pe_int (pa_cons pe_int pa_nil))))) (pe_can C_l_pick hr (by decide) rfl (pa_cons (pv 0) (pa_cons pe_int pa_nil))) (fun _ _ => rfl)))
  (pss_cons (ps_set (i := 3) sc_l_two_rounds.nd rfl (by first | exact Or.inl rfl | exact Or.inr rfl) (pe_op op_add pe_int (pe_can C_l_pick hr (by decide) rfl (pa_cons (pv 0) (pa_cons (pv 2) pa_nil)))))
  (pss_cons (ps_set (i := 4) sc_l_two_rounds.nd rfl (by first | exact Or.inl rfl | exact Or.inr rfl) (pe_op op_add pe_int (pe_can C_l_pick hr (by decide) rfl (pa_cons (pv 0) (pa_cons (pv 2) pa_nil)))))
  (pss_one (ps_ret (pe_can C_l_agreeing hr (by decide) rfl (pa_cons (pv 0) (pa_cons (pv 3) (pa_cons (pv 4) (pa_cons (pe_can C_l_pick hr (by decide) rfl (pa_cons (pv 0) (pa_cons (pe_op op_add (pe_op op_add (pv 3) (pv 4)) pe_int) pa_nil))) pa_nil))))))))))))), ?_⟩)
  · obtain ⟨_, _, _, rfl, _⟩ := h
    rfl
  · obtain ⟨c, d, ns, rfl, hD, q⟩ := h
    walk_at "rd"
    refine ⟨c, d, 6, ns, rfl, hD, by decide, fun kd H1 kd0 kd1 kp1 hD1 => ?_⟩
    walk_at "rd"
    refine r_ite (fun h => ?_) (fun h => ?_)
    · walk_at "rd"
      refine ⟨c, d, 24, ns, rfl, hD1, by decide, by decide, fun a H2 ha a1 a2 kp2 hD2 => ?_⟩
      walk_at "rd"
      refine ⟨c, d, 24, ns, rfl, hD2, by decide, by decide, fun b H3 hb b1 b2 kp3 hD3 => ?_⟩
      walk_at "rd"
      refine ⟨small (by show 2 ≤ 1000000; decide), fun p hp => ?_⟩
      exact q a b p _ ⟨ha, a1, a2⟩ ⟨hb, b1, b2⟩ (((kp1.trans kp2).trans kp3).trans (Kp.of (Evl.Ex.new hp))) (hD3.ex' (Evl.Ex.new hp)) (hD3.nd hp) upd_same
    · walk_at "rd"
      refine r_ite (fun h => ?_) (fun h => ?_)
      · walk_at "rd"
        refine ⟨c, d, 12, ns, rfl, hD1, by decide, by decide, fun a H2 ha a1 a2 kp2 hD2 => ?_⟩
        have a2' : a.length ≤ 12 := a2
        walk_at "rd"
        refine ⟨c, d, 2, ns, rfl, hD2, by decide, fun k H3 k0 k1 kp3 hD3 => ?_⟩
        walk_at "rd"
        have kn : (1 + k).toNat ≤ 2 := by omega
        have kn1 : 1 ≤ (1 + k).toNat := by omega
        have lr : ((List.replicate (1 + k).toNat a).flatten).length = (1 + k).toNat * a.length := Fm.rep_len a _
        have lr1 : 1 ≤ (1 + k).toNat * a.length := Nat.mul_pos kn1 a1
        have lr2 : (1 + k).toNat * a.length ≤ 2 * 12 := Nat.mul_le_mul kn a2'
        refine r_repS (by omega) (by omega) (small (by rw [Nat.mul_comm]; omega)) ?_
        walk_at "rd"
        refine ⟨c, d, _, ns, rfl, hD3, sg_rep _ ha, by omega, by omega, fun b H4 hb b1 b2 kp4 hD4 => ?_⟩
        walk_at "rd"
        rw [cut_to (by decide)]
        refine ⟨small (by show 2 ≤ 1000000; decide), fun p hp => ?_⟩
        exact q a _ p _ ⟨ha, a1, by omega⟩ ⟨sg_take _ hb, by rw [List.length_take]; show 1 ≤ min 24 _; omega, by rw [List.length_take]; show min 24 _ ≤ 24; omega⟩ ((((kp1.trans kp2).trans kp3).trans kp4).trans (Kp.of (Evl.Ex.new hp))) (hD4.ex' (Evl.Ex.new hp)) (hD4.nd hp) upd_same
      · walk_at "rd"
        refine ⟨small (by show 4 ≤ 1000000; decide), fun G hG => ?_⟩
        have Gd : G ≠ d := hD1.nd hG
        have exG := Evl.Ex.new (o := .lst [.int 4, .int 8, .int 12, .int 24]) hG
        have gG : (upd H1 G (.lst [.int 4, .int 8, .int 12, .int 24])) G = some (.lst [.int 4, .int 8, .int 12, .int 24]) := upd_same
        generalize upd H1 G (.lst [.int 4, .int 8, .int 12, .int 24]) = H2 at exG gG ⊢
        have hD2 := hD1.ex' exG
        walk_at "rd"
        refine ⟨c, d, 4, ns, rfl, hD2, by decide, fun m H3 m0 m1 kp3 hD3 => ?_⟩
        have gG3 := kp3 _ _ Gd gG
        obtain ⟨e, he, he2, he3⟩ : ∃ e : Nat, ([.int 4, .int 8, .int 12, .int 24] : List V)[m.toNat]? = some (.int (e : Int)) ∧ 1 ≤ e ∧ e ≤ 24 := by
          have m5 : m.toNat < 4 := by omega
          generalize m.toNat = a at m5
          match a, m5 with
          | 0, _ => exact ⟨4, rfl, by decide, by decide⟩
          | 1, _ => exact ⟨8, rfl, by decide, by decide⟩
          | 2, _ => exact ⟨12, rfl, by decide, by decide⟩
          | 3, _ => exact ⟨24, rfl, by decide, by decide⟩
        walk_at "rd"
        refine ⟨c, d, _, ns, rfl, hD3, by omega, fun x H4 x0 x1 kp4 hD4 => ?_⟩
        obtain ⟨xn, rfl⟩ : ∃ xn : Nat, x = xn := ⟨x.toNat, by omega⟩
        walk_at "rd"
        refine ⟨c, d, _, ns, rfl, hD4, by omega, fun y H5 y0 y1 kp5 hD5 => ?_⟩
        obtain ⟨yn, rfl⟩ : ∃ yn : Nat, y = yn := ⟨y.toNat, by omega⟩
        have ex1 : (1 : Int) + (xn : Int) = ((1 + xn : Nat) : Int) := by omega
        have ey1 : (1 : Int) + (yn : Int) = ((1 + yn : Nat) : Int) := by omega
        walk_at "rd"
        refine ⟨c, d, _, ns, rfl, hD5, by omega, fun z H6 z0 z1 kp6 hD6 => ?_⟩
        rw [ex1, ey1]
        refine ⟨c, d, 1 + xn, 1 + yn, z, ns, rfl, hD6, by omega, by omega, by omega, by omega, z0, by omega, fun a b p H7 ra rb kp7 hD7 pd hp => ?_⟩
        exact q a b p H7 ra rb ((((((kp1.trans (Kp.of exG)).trans kp3).trans kp4).trans kp5).trans kp6).trans kp7) hD7 pd hp
abbrev s_l_is_int : Stmt := topS 43
abbrev N_l_is_int : List Str := ["_law_thing"]
theorem sc_l_is_int : FnScope ["_law_thing"] ["_law_thing"] (defScope s_l_is_int) := ⟨rfl, rfl, rfl, by decide +kernel, rfl, by decide +kernel, by decide +kernel⟩
theorem can_l_is_int (T : Bi mg) (F : Defd K mg "_law_is_int" s_l_is_int ["_law_thing"]) : Can P w K mg base L2.CX0 1 "_law_is_int" ["_law_thing"] spIsInt := by
  refine can0 F sc_l_is_int (fun vs H Q E h => ?_) (fun f cdv A outer s H vs Q E hr h => ⟨_, (pss_one (ps_ret (pe_and (pe_callB call_isi (by rfl) T.b_isinstance boot_isinstance (pa_cons (pv 0) (pa_cons (pe_bltn (v := .ty "int") (by rfl) T.b_int boot_int rfl) pa_nil))) (pe_one (pe_not (pe_callB call_isi (by rfl) T.b_isinstance boot_isinstance (pa_cons (pv 0) (pa_cons (pe_bltn (v := .ty "bool") (by rfl) T.b_bool boot_bool rfl) pa_nil)))))))), ?_⟩)
  · obtain ⟨_, _, rfl, _⟩ := h
    rfl
  · obtain ⟨x, b, rfl, hb, q⟩ := h
    rcases hb with ⟨i, rfl, rfl⟩ | ⟨⟨k, rfl⟩, rfl⟩ | ⟨rfl, rfl⟩ | ⟨⟨l, rfl⟩, rfl⟩ | ⟨⟨a, xs, rfl, h⟩, rfl⟩ | ⟨⟨a, xs, rfl, h⟩, rfl⟩
    all_goals
      walk_at "rd"
      exact q
/-! ### a text of two rounds -/
abbrev it0 {α : Type} (c : Nat) : It α := (0, .inl c)
theorem plain_w {α : Type} {w : α → List Nat} : ∀ l : List Nat, ((l.map (it0 (α := α))).map (wItem w)).flatten = l
  | [] => rfl
  | c :: l => by
    show wItem w (0, .inl c) ++ ((l.map (it0 (α := α))).map (wItem w)).flatten = c :: l
    rw [plain_w l]
    rfl
theorem plain_c {α : Type} {f : α → Nat} : ∀ l : List Nat, cItems f (l.map (it0 (α := α))) = l.length
  | [] => rfl
  | c :: l => by
    show 1 * 1 + cItems f (l.map (it0 (α := α))) = l.length + 1
    rw [plain_c l]
    omega
theorem plain_s {α : Type} {f : α → Nat} {g : α → Nat → Nat} : ∀ (l : List Nat) (j : Nat), j < l.length → sItems f g (l.map (it0 (α := α))) j = l.getD j 0
  | [], j, h => by cases h
  | c :: l, 0, _ => rfl
  | c :: l, j + 1, h => by
    have h' : j < l.length := by
      rw [List.length_cons] at h
      omega
    show (if j + 1 < 1 * 1 then c else sItems f g (l.map (it0 (α := α))) (j + 1 - 1 * 1)) = l.getD j 0
    rw [if_neg (by omega), show j + 1 - 1 * 1 = j by omega]
    exact plain_s l j h'
theorem ok_two {a b : List Nat} (ha : Rnd a) (hb : Rnd b) : okT 1 (show Rt.T 1 from [(a.map it0, 0), (b.map it0, 0)]) := by
  have one : ∀ {l : List Nat}, Rnd l → okPart (okT 0) (cT 0) (l.map it0, 0) := fun {l} hl => ⟨fun z => hl.ne (List.map_eq_nil_iff.mp z), fun i hi => by
    obtain ⟨x, hx, rfl⟩ := List.mem_map.mp hi
    exact ⟨sg_isSg (hl.sg x hx), .inl rfl⟩, .inl rfl⟩
  refine ⟨by simp, fun p hp => ?_⟩
  rcases List.mem_cons.mp hp with z | z
  · rw [z]; exact one ha
  · have e : p = (b.map it0, 0) := by simpa using z
    rw [e]; exact one hb
theorem two_text {CB CT : Addr} {a b : List Nat} {H : Hp} {Q : VK} {E : XK} (ha : Rnd a) (hb : Rnd b) (h : Laid CT a b H Q E) : OutRound CB CT (a ++ 38 :: b) H Q E := by
  have w0 : wT 1 (show Rt.T 1 from [(a.map it0, 0), (b.map it0, 0)]) = a ++ 38 :: b := by
    show (((a.map it0).map (wItem (wT 0))).flatten ++ []) ++ 38 :: (((b.map it0).map (wItem (wT 0))).flatten ++ []) = _
    rw [List.append_nil, List.append_nil, plain_w, plain_w]
  have c0 : cT 1 (show Rt.T 1 from [(a.map it0, 0), (b.map it0, 0)]) = Nat.lcm a.length b.length := by
    show Nat.lcm (Nat.lcm 1 (cItems (cT 0) (a.map it0))) (cItems (cT 0) (b.map it0)) = _
    rw [Nat.lcm_one_left, plain_c, plain_c]
  have s0 : ∀ i, sT 1 (show Rt.T 1 from [(a.map it0, 0), (b.map it0, 0)]) i = if at' a i = 46 then at' b i else at' a i := by
    intro i
    show (if sItems (cT 0) (sT 0) (a.map it0) (i % cItems (cT 0) (a.map it0)) ≠ 46 then sItems (cT 0) (sT 0) (a.map it0) (i % cItems (cT 0) (a.map it0)) else if sItems (cT 0) (sT 0) (b.map it0) (i % cItems (cT 0) (b.map it0)) ≠ 46 then sItems (cT 0) (sT 0) (b.map it0) (i % cItems (cT 0) (b.map it0)) else 46) = _
    rw [plain_c, plain_c, plain_s a _ (Nat.mod_lt _ ha.pos), plain_s b _ (Nat.mod_lt _ hb.pos)]
    show (if at' a i ≠ 46 then at' a i else if at' b i ≠ 46 then at' b i else 46) = _
    by_cases h1 : at' a i = 46
    · rw [if_neg (fun z => z h1), if_pos h1]
      by_cases h2 : at' b i = 46
      · rw [if_neg (fun z => z h2), h2]
      · rw [if_pos h2]
    · rw [if_pos h1, if_neg h1]
  have rd := round_reads (n := 1) (by decide) _ (ok_two ha hb)
  rw [w0, c0] at rd
  unfold OutRound
  rw [rd]
  refine ⟨fun h24 => ?_, fun h24 => h.2 h24⟩
  have h24' : Nat.lcm a.length b.length ≤ 24 := h24
  have e : rowOf (Nat.lcm a.length b.length) (sT 1 (show Rt.T 1 from [(a.map it0, 0), (b.map it0, 0)])) = ovr a b := by
    unfold rowOf ovr
    rw [if_pos h24']
    exact List.map_congr_left fun i _ => s0 i
  rw [e]
  exact h.1 h24'
def spCall (C CT : Addr) : Sp := fun vs H Q E => ∃ (k : Int) (x y : V), vs = [.int k, x, y] ∧ ((k = 0 ∧ spParting C [x, y] H Q E) ∨ (k = 1 ∧ spLaid C CT [x, y] H Q E) ∨ (k = 2 ∧ spAlike C [x, y] H Q E) ∨ (k = 3 ∧ ∃ a b, x = .str (S a) ∧ y = .str (S b) ∧ Rnd a ∧ Rnd b ∧ Laid CT a b H Q E))
theorem Laid.mono {CT : Addr} {a b : List Nat} {H : Hp} {Q Q' : VK} {E E' : XK} (hq : ∀ v H, Q v H → Q' v H) (he : ∀ c d H, E c d H → E' c d H) (h : Laid CT a b H Q E) : Laid CT a b H Q' E' :=
  ⟨fun z H' ex => hq _ _ (h.1 z H' ex), fun z d H' a b c => he _ _ _ (h.2 z d H' a b c)⟩
theorem spCall_mono {C CT : Addr} {vs : List V} {H : Hp} {Q Q' : VK} {E E' : XK} (hq : ∀ v H, Q v H → Q' v H) (he : ∀ c d H, E c d H → E' c d H) (h : spCall C CT vs H Q E) : spCall C CT vs H Q' E' := by
  obtain ⟨k, x, y, rfl, h⟩ := h
  refine ⟨k, x, y, rfl, ?_⟩
  rcases h with ⟨e, x', y', e2, h⟩ | ⟨e, x', y', e2, h⟩ | ⟨e, x', y', e2, h⟩ | ⟨e, a, b, h1, h2, h3, h4, h5⟩
  · exact .inl ⟨e, x', y', e2, h.imp (fun l _ z => z.imp (fun l _ z => ⟨fun t H' ex p => hq _ _ (z.1 t H' ex p), fun H' ex p => hq _ _ (z.2 H' ex p)⟩) he) he⟩
  · exact .inr (.inl ⟨e, x', y', e2, h.imp (fun l _ z => z.imp (fun l _ z => z.mono hq he) he) he⟩)
  · exact .inr (.inr (.inl ⟨e, x', y', e2, h.imp (fun l _ z => z.imp (fun l _ z H' ex => hq _ _ (z H' ex)) he) he⟩))
  · exact .inr (.inr (.inr ⟨e, a, b, h1, h2, h3, h4, h5.mono hq he⟩))
abbrev s_l_call : Stmt := topS 51
abbrev N_l_call : List Str := ["_law_kind", "_law_first", "_law_second"]
theorem sc_l_call : FnScope ["_law_kind", "_law_first", "_law_second"] ["_law_kind", "_law_first", "_law_second"] (defScope s_l_call) := ⟨rfl, rfl, rfl, by decide +kernel, rfl, by decide +kernel, by decide +kernel⟩
theorem can_l_call (T : Bi mg) (F : Defd K mg "_law_call" s_l_call ["_law_kind", "_law_first", "_law_second"]) {A_BadRound A_TooLong A_BadText : Addr} (C_parting : Can P w K mg base (L2.CX P w) 5 "parting" ["first", "second"] (spParting A_BadRound)) (C_laid_over : Can P w K mg base (L2.CX P w) 5 "laid_over" ["first", "second"] (spLaid A_BadRound A_TooLong)) (C_alike : Can P w K mg base (L2.CX P w) 5 "alike" ["first", "second"] (spAlike A_BadRound)) (C_read_round : Can P w K mg base (L2.CX P w) 25 "read_round" ["text"] (spReadRound K A_BadText A_TooLong)) : Can P w K mg base (L2.CX P w) 26 "_law_call" ["_law_kind", "_law_first", "_law_second"] (spCall A_BadRound A_TooLong) := by
  refine canX F sc_l_call (fun vs H Q E h => ?_) (fun f cdv A outer s H vs Q E hr h => ⟨_, (pss_cons (ps_if (pt_cmpR op_eq (pv 0) pe_int (nomark _)) (pss_one (ps_ret (pe_canX C_parting hr (by decide) rfl (passes_call (takes_of rfl rfl rfl rfl) (fun _ _ _ _ h => h)) (pa_cons (pv 1) (pa_cons (pv 2) pa_nil))))) pss_nil)
  (pss_cons (ps_if (pt_cmpR op_eq (pv 0) pe_int (nomark _)) (pss_one (ps_ret (pe_canX C_laid_over hr (by decide) rfl (passes_call (takes_of rfl rfl rfl rfl) (fun _ _ _ _ h => h)) (pa_cons (pv 1) (pa_cons (pv 2) pa_nil))))) pss_nil)
  (pss_cons (ps_if (pt_cmpR op_eq (pv 0) pe_int (nomark _)) (pss_one (ps_ret (pe_canX C_alike hr (by decide) rfl (passes_call (takes_of rfl rfl rfl rfl) (fun _ _ _ _ h => h)) (pa_cons (pv 1) (pa_cons (pv 2) pa_nil))))) pss_nil)
  (pss_one (ps_ret (pe_canX C_read_round hr (by decide) rfl (passes_call (takes_of rfl rfl rfl rfl) (fun _ _ _ _ h => h)) (pa_cons (pe_op op_catS (pe_op op_catS (pv 1) (pe_strL [38] (by decide +kernel))) (pv 2)) pa_nil))))))), ?_⟩)
  · obtain ⟨_, _, _, rfl, _⟩ := h
    rfl
  · obtain ⟨k, x, y, rfl, h⟩ := h
    rcases h with ⟨rfl, h⟩ | ⟨rfl, h⟩ | ⟨rfl, h⟩ | ⟨rfl, a, b, rfl, rfl, ha, hb, h⟩
    · walk_at "rd"
      refine r_ite (fun _ => ?_) (fun z => absurd rfl z)
      walk_at "rd"
      exact h
    · walk_at "rd"
      refine r_ite (fun z => absurd z (by decide)) (fun _ => ?_)
      walk_at "rd"
      refine r_ite (fun _ => ?_) (fun z => absurd rfl z)
      walk_at "rd"
      exact h
    · walk_at "rd"
      refine r_ite (fun z => absurd z (by decide)) (fun _ => ?_)
      walk_at "rd"
      refine r_ite (fun z => absurd z (by decide)) (fun _ => ?_)
      walk_at "rd"
      refine r_ite (fun _ => ?_) (fun z => absurd rfl z)
      walk_at "rd"
      exact h
    · have la := ha.le
      have lb := hb.le
      walk_at "rd"
      refine r_ite (fun z => absurd z (by decide)) (fun _ => ?_)
      walk_at "rd"
      refine r_ite (fun z => absurd z (by decide)) (fun _ => ?_)
      walk_at "rd"
      refine r_ite (fun z => absurd z (by decide)) (fun _ => ?_)
      walk_at "rd"
      refine r_catS (small (by show a.length + 1 ≤ 1000000; omega)) ?_
      walk_at "rd"
      refine r_catS (small (by rw [List.length_append]; show a.length + 1 + b.length ≤ 1000000; omega)) ?_
      refine ⟨_, rfl, .inr ⟨a ++ [38] ++ b, rfl, by rw [List.length_append, List.length_append]; show a.length + 1 + b.length ≤ 2000; omega, ?_⟩⟩
      rw [List.append_assoc]
      exact two_text ha hb h
end
end Fk

set_option Elab.async false
set_option linter.all false
set_option maxRecDepth 100000
set_option maxHeartbeats 4000000
namespace Fk
open PySem PySem.Spec PyProof.Rows L2 Fg Fm
open Rt hiding rep_len
local macro_rules | `(tactic| walk_at "rd1") => `(tactic| first
  | with_reducible refine r_seq ?_
  | with_reducible refine r_asg ?_
  | with_reducible refine r_gname ?_
  | with_reducible refine r_gsub ?_
  | with_reducible refine r_ret ?_
  | with_reducible refine r_retN ?_
  | with_reducible refine r_next ?_
  | with_reducible refine r_drop ?_
  | with_reducible refine r_ifS ?_
  | with_reducible refine r_if ?_
  | with_reducible refine r_par ?_
  | with_reducible refine r_pair ?_
  | with_reducible refine r_test ?_
  | with_reducible refine r_tB ?_
  | with_reducible refine r_not ?_
  | with_reducible refine r_and ?_
  | with_reducible refine r_or ?_
  | with_reducible refine r_andV ?_
  | with_reducible refine r_orV ?_
  | with_reducible refine r_notV ?_
  | with_reducible refine r_nil ?_
  | with_reducible refine r_cons ?_
  | with_reducible refine r_call ?_
  | with_reducible refine r_callS ?_
  | with_reducible refine r_cb ?_
  | with_reducible refine r_then ?_
  | with_reducible refine r_tup ?_
  | with_reducible refine r_lst ?_
  | with_reducible refine r_sl ?_
  | with_reducible refine r_nopart ?_
  | with_reducible refine r_part ?_
  | with_reducible refine r_lcR1 ?_
  | with_reducible refine r_lcR2 ?_
  | with_reducible refine r_lcL ?_
  | with_reducible refine r_lcT ?_
  | with_reducible refine r_forR1 ?_
  | with_reducible refine r_forR2 ?_
  | with_reducible refine r_forL ?_
  | with_reducible refine r_forT ?_
  | with_reducible refine r_forE ?_
  | with_reducible refine r_strE ?_
  | ((with_reducible refine r_rng1 ?hc ?_); (case hc => omega))
  | ((with_reducible refine r_rng2 ?hc ?_); (case hc => omega))
  | ((with_reducible refine' r_refL ?hc ?_); (case hc => first | assumption | exact Evl.sq_of (by assumption)))
  | ((with_reducible refine' r_refT ?hc ?_); (case hc => first | assumption | exact Evl.st_of (by assumption)))
  | with_reducible refine r_op ?_
  | with_reducible refine r_un ?_
  | with_reducible refine r_chain ?_
  | ((with_reducible refine' r_var ?hv ?_); (case hv => exact rfl))
  | with_reducible refine r_cS ?_
  | with_reducible refine r_cs ?_
  | with_reducible refine r_c ?_
  | with_reducible refine r_yes ?_
  | with_reducible refine r_bm ?_
  | with_reducible refine r_bl ?_
  | with_reducible refine r_in ?_
  | with_reducible refine r_ty ?_
  | with_reducible refine r_I0 ?_
  | ((with_reducible refine r_I ?hc ?_); (case hc => first | assumption | (show (0 : Int) < _; decide) | exact Or.inr ⟨by decide, by decide⟩ | exact Or.inr ⟨by omega, by omega⟩ | exact Or.inl ⟨by decide, by decide⟩ | exact (show CDivW _ _ from ⟨by decide, by decide +kernel⟩) | exact (show CPowW _ _ from ⟨by decide, by decide +kernel⟩) | (show (0 : Int) < _; omega)))
  | with_reducible refine r_U ?_
  | with_reducible refine r_eqI ?_
  | with_reducible refine r_neI ?_
  | with_reducible refine r_eqS ?_
  | with_reducible refine r_neS ?_
  | with_reducible refine r_eqB ?_
  | with_reducible refine r_neB ?_
  | with_reducible refine r_niS ?_
  | with_reducible refine r_inSS ?_
  | ((with_reducible refine r_slSS ?hc ?_); (case hc => first | exact small (by omega) | exact small (by simp; omega)))
  | ((with_reducible refine r_lenS ?hc ?_); (case hc => first | exact small (by omega) | exact small (by simp; omega)))
  | ((with_reducible refine' r_lenL ?hc ?_); (case hc => first | assumption | exact Evl.sq_of (by assumption)))
  | ((with_reducible refine' r_lenT ?hc ?_); (case hc => first | assumption | exact Evl.st_of (by assumption)))
  | ((with_reducible refine' r_ixL ?h1 ?h2 ?h3 ?_); (case h1 => first | assumption | exact Evl.sq_of (by assumption) | exact Evl.sq_of upd_same); (case h2 => first | decide | omega); (case h3 => first | exact rfl | assumption))
  | ((with_reducible refine' r_ixT ?h1 ?h2 ?h3 ?_); (case h1 => first | assumption | exact Evl.st_of (by assumption)); (case h2 => first | decide | omega); (case h3 => first | exact rfl | assumption))
  | with_reducible refine r_T ?_
  | with_reducible refine r_notNn ?_
  | with_reducible refine r_notN_int ?_
  | with_reducible refine r_notN_str ?_
  | with_reducible refine r_notN_ref ?_
  | with_reducible refine r_isNn ?_
  | with_reducible refine r_isN_int ?_
  | with_reducible refine r_isN_str ?_
  | with_reducible refine r_isN_ref ?_
  | ((with_reducible refine' r_isi ?ht ?hk ?_); (case ht => first | exact .base (.int _) | exact .base (.bl _) | exact .base (.str _) | exact .base .non | exact .base (.lst (by assumption)) | exact .base (.tup (by assumption))); (case hk => first | exact kb_int_int | exact kb_int_bool | exact kb_int_str | exact kb_int_list | exact kb_int_tuple | exact kb_bool_int | exact kb_bool_bool | exact kb_bool_str | exact kb_bool_list | exact kb_bool_tuple | exact kb_str_int | exact kb_str_bool | exact kb_str_str | exact kb_str_list | exact kb_str_tuple | exact kb_NoneType_int | exact kb_NoneType_bool | exact kb_NoneType_str | exact kb_NoneType_list | exact kb_NoneType_tuple | exact kb_list_int | exact kb_list_bool | exact kb_list_str | exact kb_list_list | exact kb_list_tuple | exact kb_tuple_int | exact kb_tuple_bool | exact kb_tuple_str | exact kb_tuple_list | exact kb_tuple_tuple))
  | with_reducible refine r_F ?_
  | with_reducible refine r_nT ?_
  | with_reducible refine r_nF ?_
  | with_reducible refine r_mko ?_
  | with_reducible refine r_xf ?_
  | ((with_reducible refine' r_sum ?hc ?_); (case hc => first | assumption | exact Evl.sq_of (by assumption)))
  | ((with_reducible refine' r_setL ?h1 ?h2 ?h3 ?_); (case h1 => first | assumption | exact upd_same); (case h2 => first | decide | omega); (case h3 => first | (show _ < _; decide) | (simp; done)))
  | with_reducible refine r_int ?_
  | with_reducible refine r_abs ?_)
local macro_rules | `(tactic| walk_at "rd") => `(tactic| repeat (walk_at "rd1"))

section
variable {P : Program} {w : World} {K : PySem.W.Frag} {mg : Str → Option Value} {base : Heap}
def RetT (w : List Nat) (v : V) (H : Hp) (Q : VK) : Prop := ∀ t H', Ex H H' → H' t = some (.tup [.str (S w), v]) → Q (.ref t) H'
def eTold (C CT : Addr) (Q : VK) : XK := fun cls d H1 => (cls = .ref C ∧ ∃ dd v, d = some dd ∧ H1 dd = some (.xd [("number", v)]) ∧ RetT wRound v H1 Q) ∨ (cls = .ref CT ∧ ∃ dd v, d = some dd ∧ H1 dd = some (.xd [("number", v)]) ∧ RetT wLong v H1 Q)
def spTold (C CT : Addr) : Sp := fun vs H Q _ => vs.length = 3 ∧ spCall C CT vs H (fun v H1 => RetT wTold v H1 Q) (eTold C CT Q)
/-- what the classes of the errors say of one another -/
structure Two (K : PySem.W.Frag) (C CB G : Addr) : Prop where
  xm1 : PySem.W.exmOne K (.ref C) (.ref G) = some true
  xm2 : PySem.W.exmOne K (.ref CB) (.ref G) = some true
  k11 : PySem.W.kitOne K (.ref C) (.ref C) = some true
  k12 : PySem.W.kitOne K (.ref C) (.ref CB) = some false
  k1v : PySem.W.kitOne K (.ref C) (.type "ValueError") = some true
  k21 : PySem.W.kitOne K (.ref CB) (.ref C) = some false
  k22 : PySem.W.kitOne K (.ref CB) (.ref CB) = some true
  k2v : PySem.W.kitOne K (.ref CB) (.type "ValueError") = some true
theorem r_isX {K : PySem.W.Frag} {a D C dd : Addr} {fs : List (Str × V)} {b : Bool} {H : Hp} {Q : VK} (c : ExcC K D) (k : PySem.W.kitOne K (.ref D) (.ref C) = some b) (h : H dd = some (.xd fs)) (q : Q (.bl b) H) : rIsX K a (.ref D) (some dd) [.ref a, .ref C] H Q :=
  ⟨D, .ref C, _, b, dd, fs, rfl, fun u r => r, rfl, c, k, rfl, h, q⟩
theorem r_isXT {K : PySem.W.Frag} {a D dd : Addr} {n : String} {fs : List (Str × V)} {b : Bool} {H : Hp} {Q : VK} (c : ExcC K D) (k : PySem.W.kitOne K (.ref D) (.type n) = some b) (h : H dd = some (.xd fs)) (q : Q (.bl b) H) : rIsX K a (.ref D) (some dd) [.ref a, .ty n] H Q :=
  ⟨D, .ty n, _, b, dd, fs, rfl, fun u r => r, rfl, c, k, rfl, h, q⟩
theorem r_eqB3 {K : PySem.W.Frag} {H : Hp} {Q : VK} {p r : Addr} {a b c x y z : Bool} (h : H p = some (.lst [.bl a, .bl b, .bl c])) (k : H r = some (.lst [.bl x, .bl y, .bl z])) (q : Q (.bl (decide (a = x ∧ b = y ∧ c = z))) H) : rEqD K (.ref p) (.ref r) H Q :=
  ⟨.list [.bool a, .bool b, .bool c], .list [.bool x, .bool y, .bool z], .lst (Evl.sq_of h) (.cons (.bl _) (.cons (.bl _) (.cons (.bl _) .nil))), .lst (Evl.sq_of k) (.cons (.bl _) (.cons (.bl _) (.cons (.bl _) .nil))), rfl, rfl, by
    have e : PyData.eqv (.list [.bool a, .bool b, .bool c]) (.list [.bool x, .bool y, .bool z]) = decide (a = x ∧ b = y ∧ c = z) := by
      cases a <;> cases b <;> cases c <;> cases x <;> cases y <;> cases z <;> rfl
    rw [e]; exact q⟩
abbrev s_l_told : Stmt := topS 52
abbrev N_l_told : List Str := ["_law_kind", "_law_first", "_law_second", "e", "_law_hits"]
theorem sc_l_told : FnScope ["_law_kind", "_law_first", "_law_second", "e", "_law_hits"] ["_law_kind", "_law_first", "_law_second"] (defScope s_l_told) := ⟨rfl, rfl, rfl, by decide +kernel, rfl, by decide +kernel, by decide +kernel⟩
theorem can_l_told (T : Bi mg) (F : Defd K mg "_law_told" s_l_told ["_law_kind", "_law_first", "_law_second"]) {A_BadRound A_TooLong A_GlimError : Addr} (E_BadRound : Err P w K mg base "BadRound" A_BadRound "number") (E_TooLong : Err P w K mg base "TooLong" A_TooLong "number") (g_GlimError : mg "GlimError" = some (.ref A_GlimError)) (W2 : Two K A_BadRound A_TooLong A_GlimError) (C_l_call : Can P w K mg base (L2.CX P w) 26 "_law_call" ["_law_kind", "_law_first", "_law_second"] (spCall A_BadRound A_TooLong)) : Can P w K mg base L2.CX0 27 "_law_told" ["_law_kind", "_law_first", "_law_second"] (spTold A_BadRound A_TooLong) := by
  refine can0 F sc_l_told (fun vs H Q E h => ?_) (fun f cdv A outer s H vs Q E hr h => ⟨_, (pss_cons (ps_try_as (i := 3) (Wout := fun _ _ _ _ => False) rfl rfl sc_l_told.nd rfl rfl ⟨rfl, by decide, Or.inl g_GlimError⟩ takes0
    (fun W pn xe tk _ => (pss_one (ps_ret (pe_tup (pa_cons (pe_strL [116, 111, 108, 100] (by decide +kernel)) (pa_cons (pe_canS C_l_call hr (by decide) rfl (fun σ => passAt tk σ) (pa_cons (pv 0) (pa_cons (pv 1) (pa_cons (pv 2) pa_nil)))) pa_nil))))))
    (fun a oe cls d pn hz hf => (pss_cons (ps_set (i := 4) sc_l_told.nd rfl (by first | exact Or.inl rfl | exact Or.inr rfl) (pe_lst (pa_cons (pe_callB (call_isX hz hf) (by rfl) T.b_isinstance boot_isinstance (pa_cons (pv 3) (pa_cons (pe_glob (v := .ref A_BadRound) rfl E_BadRound.g rfl) pa_nil))) (pa_cons (pe_callB (call_isX hz hf) (by rfl) T.b_isinstance boot_isinstance (pa_cons (pv 3) (pa_cons (pe_glob (v := .ref A_TooLong) rfl E_TooLong.g rfl) pa_nil))) (pa_cons (pe_callB (call_isX hz hf) (by rfl) T.b_isinstance boot_isinstance (pa_cons (pv 3) (pa_cons (pe_bltn (v := .ty "ValueError") (by rfl) T.b_ValueError (by decide +kernel) rfl) pa_nil))) pa_nil)))))
  (pss_cons (ps_if (pt_cmpR (op_eqK (K := K) hr) (pv 4) (pe_lst (pa_cons pe_bl (pa_cons pe_bl (pa_cons pe_bl pa_nil)))) (nomark _)) (pss_one (ps_ret (pe_tup (pa_cons (pe_strL [114, 111, 117, 110, 100] (by decide +kernel)) (pa_cons (pe_xf E_BadRound.xf E_BadRound.noN hz hf (pv 3)) pa_nil))))) pss_nil)
  (pss_one (ps_if (pt_cmpR (op_eqK (K := K) hr) (pv 4) (pe_lst (pa_cons pe_bl (pa_cons pe_bl (pa_cons pe_bl pa_nil)))) (nomark _)) (pss_one (ps_ret (pe_tup (pa_cons (pe_strL [108, 111, 110, 103] (by decide +kernel)) (pa_cons (pe_xf E_TooLong.xf E_TooLong.noN hz hf (pv 3)) pa_nil))))) pss_nil))))))
  (pss_one (ps_ret (pe_tup (pa_cons (pe_strL [110, 111, 110, 101] (by decide +kernel)) (pa_cons pe_non pa_nil)))))), ?_⟩)
  · obtain ⟨z, _⟩ := h
    exact z
  · obtain ⟨hl, h⟩ := h
    obtain ⟨k, x, y, e, _⟩ := id h
    subst e
    walk_at "rd"
    refine spCall_mono (fun v H1 hv => ?_) (fun cls d H1 he => ?_) h
    · walk_at "rd"
      exact ⟨small (by show 2 ≤ 1000000; decide), fun p hp => hv p _ (Evl.Ex.new hp) upd_same⟩
    · rcases he with ⟨rfl, dd, v, rfl, hdd, hq⟩ | ⟨rfl, dd, v, rfl, hdd, hq⟩
      · refine r_wAs W2.xm1 fun a0 ha0 => ?_
        walk_at "rd"
        refine r_isX E_BadRound.xc W2.k11 hdd ?_
        walk_at "rd"
        refine r_isX E_BadRound.xc W2.k12 hdd ?_
        walk_at "rd"
        refine r_isXT E_BadRound.xc W2.k1v hdd ?_
        walk_at "rd"
        refine ⟨small (by show 3 ≤ 1000000; decide), fun p1 hp1 => ?_⟩
        have ex1 : Ex H1 (upd H1 p1 (.lst [.bl true, .bl false, .bl true])) := Evl.Ex.new hp1
        have g1 : (upd H1 p1 (.lst [.bl true, .bl false, .bl true])) p1 = some (.lst [.bl true, .bl false, .bl true]) := upd_same
        generalize upd H1 p1 (.lst [.bl true, .bl false, .bl true]) = G1 at ex1 g1 ⊢
        walk_at "rd"
        refine ⟨small (by show 3 ≤ 1000000; decide), fun p2 hp2 => ?_⟩
        have ex2 := Evl.Ex.new (o := .lst [.bl true, .bl false, .bl true]) hp2
        refine r_eqB3 (ex2 _ _ g1) upd_same ?_
        walk_at "rd"
        refine r_ite (fun _ => ?_) (fun z => absurd (by decide) z)
        walk_at "rd"
        refine ⟨rfl, rfl, dd, _, v, rfl, ex2 _ _ (ex1 _ _ hdd), rfl, ?_⟩
        walk_at "rd"
        refine ⟨small (by show 2 ≤ 1000000; decide), fun p3 hp3 => ?_⟩
        exact hq p3 _ ((ex1.trans ex2).trans (Evl.Ex.new hp3)) upd_same

      · refine r_wAs W2.xm2 fun a0 ha0 => ?_
        walk_at "rd"
        refine r_isX E_TooLong.xc W2.k21 hdd ?_
        walk_at "rd"
        refine r_isX E_TooLong.xc W2.k22 hdd ?_
        walk_at "rd"
        refine r_isXT E_TooLong.xc W2.k2v hdd ?_
        walk_at "rd"
        refine ⟨small (by show 3 ≤ 1000000; decide), fun p1 hp1 => ?_⟩
        have ex1 : Ex H1 (upd H1 p1 (.lst [.bl false, .bl true, .bl true])) := Evl.Ex.new hp1
        have g1 : (upd H1 p1 (.lst [.bl false, .bl true, .bl true])) p1 = some (.lst [.bl false, .bl true, .bl true]) := upd_same
        generalize upd H1 p1 (.lst [.bl false, .bl true, .bl true]) = G1 at ex1 g1 ⊢
        walk_at "rd"
        refine ⟨small (by show 3 ≤ 1000000; decide), fun p2 hp2 => ?_⟩
        have ex2 := Evl.Ex.new (o := .lst [.bl true, .bl false, .bl true]) hp2
        refine r_eqB3 (ex2 _ _ g1) upd_same ?_
        walk_at "rd"
        refine r_ite (fun z => absurd z (by decide)) (fun _ => ?_)
        have g2 := ex2 _ _ g1
        generalize upd G1 p2 (.lst [.bl true, .bl false, .bl true]) = G2 at ex2 g2 ⊢
        walk_at "rd"
        refine ⟨small (by show 3 ≤ 1000000; decide), fun p4 hp4 => ?_⟩
        have ex4 := Evl.Ex.new (o := .lst [.bl false, .bl true, .bl true]) hp4
        refine r_eqB3 (ex4 _ _ g2) upd_same ?_
        walk_at "rd"
        refine r_ite (fun _ => ?_) (fun z => absurd (by decide) z)
        walk_at "rd"
        refine ⟨rfl, rfl, dd, _, v, rfl, ex4 _ _ (ex2 _ _ (ex1 _ _ hdd)), rfl, ?_⟩
        walk_at "rd"
        refine ⟨small (by show 2 ≤ 1000000; decide), fun p3 hp3 => ?_⟩
        exact hq p3 _ (((ex1.trans ex2).trans ex4).trans (Evl.Ex.new hp3)) upd_same

theorem r_isN_bl {b : Bool} {H : Hp} {Q : VK} (q : Q (.bl false) H) : rIsN (.bl b) .non H Q := ⟨rfl, q⟩
def spEqual : Sp := fun vs H Q _ => ∃ (p r : Addr) (x : List Nat) (v : V), vs = [.ref p, .ref r] ∧ H p = some (.tup [.str (S x), v]) ∧ H r = some (.tup [.str (S x), v]) ∧ (v = .non ∨ (∃ b, v = .bl b) ∨ (∃ i, v = .int i) ∨ ∃ l, v = .str (S l)) ∧ Q (.bl true) H
abbrev s_l_equal : Stmt := topS 53
abbrev N_l_equal : List Str := ["_law_told_here", "_law_due"]
theorem sc_l_equal : FnScope ["_law_told_here", "_law_due"] ["_law_told_here", "_law_due"] (defScope s_l_equal) := ⟨rfl, rfl, rfl, by decide +kernel, rfl, by decide +kernel, by decide +kernel⟩
theorem can_l_equal (T : Bi mg) (F : Defd K mg "_law_equal" s_l_equal ["_law_told_here", "_law_due"]) (C_l_is_int : Can P w K mg base L2.CX0 1 "_law_is_int" ["_law_thing"] spIsInt) : Can P w K mg base L2.CX0 2 "_law_equal" ["_law_told_here", "_law_due"] spEqual := by
  refine can0 F sc_l_equal (fun vs H Q E h => ?_) (fun f cdv A outer s H vs Q E hr h => ⟨_, (pss_cons (ps_if (pt_cmpR op_ne (pe_ix ix_tup (pv 0) pe_int (fun _ _ => rfl)) (pe_ix ix_tup (pv 1) pe_int (fun _ _ => rfl)) (nomark _)) (pss_one (ps_ret pe_bl)) pss_nil)
  (pss_cons (ps_if (pt_cmpR op_isN1 (pe_ix ix_tup (pv 1) pe_int (fun _ _ => rfl)) pe_non (nomark _)) (pss_one (ps_ret (pe_cmpR op_isN1 (pe_ix ix_tup (pv 0) pe_int (fun _ _ => rfl)) pe_non (nomark _)))) pss_nil)
  (pss_cons (ps_if (pt_val (pe_callB call_isi (by rfl) T.b_isinstance boot_isinstance (pa_cons (pe_ix ix_tup (pv 1) pe_int (fun _ _ => rfl)) (pa_cons (pe_bltn (v := .ty "bool") (by rfl) T.b_bool boot_bool rfl) pa_nil)))) (pss_one (ps_ret (pe_and (pe_callB call_isi (by rfl) T.b_isinstance boot_isinstance (pa_cons (pe_ix ix_tup (pv 0) pe_int (fun _ _ => rfl)) (pa_cons (pe_bltn (v := .ty "bool") (by rfl) T.b_bool boot_bool rfl) pa_nil))) (pe_one (pe_cmpR op_eq (pe_ix ix_tup (pv 0) pe_int (fun _ _ => rfl)) (pe_ix ix_tup (pv 1) pe_int (fun _ _ => rfl)) (nomark _)))))) pss_nil)
  (pss_cons (ps_if (pt_val (pe_callB call_isi (by rfl) T.b_isinstance boot_isinstance (pa_cons (pe_ix ix_tup (pv 1) pe_int (fun _ _ => rfl)) (pa_cons (pe_bltn (v := .ty "int") (by rfl) T.b_int boot_int rfl) pa_nil)))) (pss_one (ps_ret (pe_and (pe_can C_l_is_int hr (by decide) rfl (pa_cons (pe_ix ix_tup (pv 0) pe_int (fun _ _ => rfl)) pa_nil)) (pe_one (pe_cmpR op_eq (pe_ix ix_tup (pv 0) pe_int (fun _ _ => rfl)) (pe_ix ix_tup (pv 1) pe_int (fun _ _ => rfl)) (nomark _)))))) pss_nil)
  (pss_one (ps_ret (pe_and (pe_callB call_isi (by rfl) T.b_isinstance boot_isinstance (pa_cons (pe_ix ix_tup (pv 0) pe_int (fun _ _ => rfl)) (pa_cons (pe_bltn (v := .ty "str") (by rfl) T.b_str boot_str rfl) pa_nil))) (pe_one (pe_cmpR op_eq (pe_ix ix_tup (pv 0) pe_int (fun _ _ => rfl)) (pe_ix ix_tup (pv 1) pe_int (fun _ _ => rfl)) (nomark _)))))))))), ?_⟩)
  · obtain ⟨_, _, _, _, rfl, _⟩ := h
    rfl
  · obtain ⟨p, r, x, v, rfl, hp, hr2, hv, q⟩ := h
    rcases hv with rfl | ⟨b, rfl⟩ | ⟨i, rfl⟩ | ⟨l, rfl⟩
    · walk_at "rd"
      refine r_iteN (fun z => absurd rfl z) (fun _ => ?_)
      walk_at "rd"
      exact q
    · walk_at "rd"
      refine r_iteN (fun z => absurd rfl z) (fun _ => ?_)
      walk_at "rd"
      refine r_isN_bl ?_
      walk_at "rd"
      rw [decide_eq_true rfl]
      exact q
    · walk_at "rd"
      refine r_iteN (fun z => absurd rfl z) (fun _ => ?_)
      walk_at "rd"
      refine ⟨_, true, rfl, .inl ⟨i, rfl, rfl⟩, ?_⟩
      walk_at "rd"
      rw [decide_eq_true rfl]
      exact q
    · walk_at "rd"
      refine r_iteN (fun z => absurd rfl z) (fun _ => ?_)
      walk_at "rd"
      rw [decide_eq_true rfl]
      exact q
end
end Fk

set_option Elab.async false
set_option linter.all false
set_option maxRecDepth 100000
set_option maxHeartbeats 4000000
namespace Fk
open PySem PySem.Spec PyProof.Rows L2 Fg Fm
open Rt hiding rep_len
local macro_rules | `(tactic| walk_at "rd1") => `(tactic| first
  | with_reducible refine r_seq ?_
  | with_reducible refine r_asg ?_
  | with_reducible refine r_gname ?_
  | with_reducible refine r_gsub ?_
  | with_reducible refine r_ret ?_
  | with_reducible refine r_retN ?_
  | with_reducible refine r_next ?_
  | with_reducible refine r_drop ?_
  | with_reducible refine r_ifS ?_
  | with_reducible refine r_if ?_
  | with_reducible refine r_par ?_
  | with_reducible refine r_pair ?_
  | with_reducible refine r_test ?_
  | with_reducible refine r_tB ?_
  | with_reducible refine r_not ?_
  | with_reducible refine r_and ?_
  | with_reducible refine r_or ?_
  | with_reducible refine r_andV ?_
  | with_reducible refine r_orV ?_
  | with_reducible refine r_notV ?_
  | with_reducible refine r_nil ?_
  | with_reducible refine r_cons ?_
  | with_reducible refine r_call ?_
  | with_reducible refine r_callS ?_
  | with_reducible refine r_cb ?_
  | with_reducible refine r_then ?_
  | with_reducible refine r_tup ?_
  | with_reducible refine r_lst ?_
  | with_reducible refine r_sl ?_
  | with_reducible refine r_nopart ?_
  | with_reducible refine r_part ?_
  | with_reducible refine r_lcR1 ?_
  | with_reducible refine r_lcR2 ?_
  | with_reducible refine r_lcL ?_
  | with_reducible refine r_lcT ?_
  | with_reducible refine r_forR1 ?_
  | with_reducible refine r_forR2 ?_
  | with_reducible refine r_forL ?_
  | with_reducible refine r_forT ?_
  | with_reducible refine r_forE ?_
  | with_reducible refine r_strE ?_
  | ((with_reducible refine r_rng1 ?hc ?_); (case hc => omega))
  | ((with_reducible refine r_rng2 ?hc ?_); (case hc => omega))
  | ((with_reducible refine' r_refL ?hc ?_); (case hc => first | assumption | exact Evl.sq_of (by assumption)))
  | ((with_reducible refine' r_refT ?hc ?_); (case hc => first | assumption | exact Evl.st_of (by assumption)))
  | with_reducible refine r_op ?_
  | with_reducible refine r_un ?_
  | with_reducible refine r_chain ?_
  | ((with_reducible refine' r_var ?hv ?_); (case hv => exact rfl))
  | with_reducible refine r_cS ?_
  | with_reducible refine r_cs ?_
  | with_reducible refine r_c ?_
  | with_reducible refine r_yes ?_
  | with_reducible refine r_bm ?_
  | with_reducible refine r_bl ?_
  | with_reducible refine r_in ?_
  | with_reducible refine r_ty ?_
  | with_reducible refine r_I0 ?_
  | ((with_reducible refine r_I ?hc ?_); (case hc => first | assumption | (show (0 : Int) < _; decide) | exact Or.inr ⟨by decide, by decide⟩ | exact Or.inr ⟨by omega, by omega⟩ | exact Or.inl ⟨by decide, by decide⟩ | exact (show CDivW _ _ from ⟨by decide, by decide +kernel⟩) | exact (show CPowW _ _ from ⟨by decide, by decide +kernel⟩) | (show (0 : Int) < _; omega)))
  | with_reducible refine r_U ?_
  | with_reducible refine r_eqI ?_
  | with_reducible refine r_neI ?_
  | with_reducible refine r_eqS ?_
  | with_reducible refine r_neS ?_
  | with_reducible refine r_eqB ?_
  | with_reducible refine r_neB ?_
  | with_reducible refine r_niS ?_
  | with_reducible refine r_inSS ?_
  | ((with_reducible refine r_slSS ?hc ?_); (case hc => first | exact small (by omega) | exact small (by simp; omega)))
  | ((with_reducible refine r_lenS ?hc ?_); (case hc => first | exact small (by omega) | exact small (by simp; omega)))
  | ((with_reducible refine' r_lenL ?hc ?_); (case hc => first | assumption | exact Evl.sq_of (by assumption)))
  | ((with_reducible refine' r_lenT ?hc ?_); (case hc => first | assumption | exact Evl.st_of (by assumption)))
  | ((with_reducible refine' r_ixL ?h1 ?h2 ?h3 ?_); (case h1 => first | assumption | exact Evl.sq_of (by assumption) | exact Evl.sq_of upd_same); (case h2 => first | decide | omega); (case h3 => first | exact rfl | assumption))
  | ((with_reducible refine' r_ixT ?h1 ?h2 ?h3 ?_); (case h1 => first | assumption | exact Evl.st_of (by assumption)); (case h2 => first | decide | omega); (case h3 => first | exact rfl | assumption))
  | with_reducible refine r_T ?_
  | with_reducible refine r_notNn ?_
  | with_reducible refine r_notN_int ?_
  | with_reducible refine r_notN_str ?_
  | with_reducible refine r_notN_ref ?_
  | with_reducible refine r_isNn ?_
  | with_reducible refine r_isN_int ?_
  | with_reducible refine r_isN_str ?_
  | with_reducible refine r_isN_ref ?_
  | ((with_reducible refine' r_isi ?ht ?hk ?_); (case ht => first | exact .base (.int _) | exact .base (.bl _) | exact .base (.str _) | exact .base .non | exact .base (.lst (by assumption)) | exact .base (.tup (by assumption))); (case hk => first | exact kb_int_int | exact kb_int_bool | exact kb_int_str | exact kb_int_list | exact kb_int_tuple | exact kb_bool_int | exact kb_bool_bool | exact kb_bool_str | exact kb_bool_list | exact kb_bool_tuple | exact kb_str_int | exact kb_str_bool | exact kb_str_str | exact kb_str_list | exact kb_str_tuple | exact kb_NoneType_int | exact kb_NoneType_bool | exact kb_NoneType_str | exact kb_NoneType_list | exact kb_NoneType_tuple | exact kb_list_int | exact kb_list_bool | exact kb_list_str | exact kb_list_list | exact kb_list_tuple | exact kb_tuple_int | exact kb_tuple_bool | exact kb_tuple_str | exact kb_tuple_list | exact kb_tuple_tuple))
  | with_reducible refine r_F ?_
  | with_reducible refine r_nT ?_
  | with_reducible refine r_nF ?_
  | with_reducible refine r_mko ?_
  | with_reducible refine r_xf ?_
  | ((with_reducible refine' r_sum ?hc ?_); (case hc => first | assumption | exact Evl.sq_of (by assumption)))
  | ((with_reducible refine' r_setL ?h1 ?h2 ?h3 ?_); (case h1 => first | assumption | exact upd_same); (case h2 => first | decide | omega); (case h3 => first | (show _ < _; decide) | (simp; done)))
  | with_reducible refine r_int ?_
  | with_reducible refine r_abs ?_)
local macro_rules | `(tactic| walk_at "rd") => `(tactic| repeat (walk_at "rd1"))

section
variable {P : Program} {w : World} {K : PySem.W.Frag} {mg : Str → Option Value} {base : Heap}
theorem part_uniq {a b : List Nat} {t s : Nat} (h : PartAt a b t) (k : PartAt a b s) : t = s := by
  rcases Nat.lt_trichotomy t s with z | z | z
  · exact absurd (k.2 t z) h.1
  · exact z
  · exact absurd (h.2 s z) k.1
theorem part_not {a b : List Nat} {t : Nat} (h : PartAt a b t) (k : Same a b) : False := h.1 (k t)
theorem part_symm {a b : List Nat} {t : Nat} (h : PartAt a b t) : PartAt b a t := ⟨fun z => h.1 z.symm, fun s hs => (h.2 s hs).symm⟩
theorem part_ex (a b : List Nat) : Same a b ∨ ∃ t, PartAt a b t := by
  have key : ∀ n, (∀ s, s < n → at' a s = at' b s) ∨ ∃ t, PartAt a b t := by
    intro n
    induction n with
    | zero => exact .inl fun s h => by omega
    | succ n ih =>
      rcases ih with h | h
      · by_cases e : at' a n = at' b n
        · refine .inl fun s hs => ?_
          by_cases g : s = n
          · rw [g]; exact e
          · exact h s (by omega)
        · exact .inr ⟨n, e, h⟩
      · exact .inr h
  by_cases h : ∃ t, PartAt a b t
  · exact .inr h
  · refine .inl fun t => ?_
    rcases key (t + 1) with k | k
    · exact k t (Nat.lt_succ_self t)
    · exact absurd k h
theorem take_one1 {l : List Nat} {x : Nat} (h : l[0]? = some x) : l.take 1 = [x] := by
  cases l with
  | nil => cases h
  | cons y l => cases h; rfl
theorem rot_head {l : List Nat} (h : l ≠ []) (n : Nat) : (rot l n).take 1 = [at' l n] := by
  have := rot_get (l := l) (n := n) (i := 0) (pos_len h)
  rw [Nat.zero_add] at this
  exact take_one1 this
theorem laid_told {C CT : Addr} {a b : List Nat} {H : Hp} {Q : VK} (q : ∀ t H', Ex H H' → H' t = some (.tup (overV a b)) → Q (.ref t) H') : Laid CT a b H (fun v H1 => RetT wTold v H1 Q) (eTold C CT Q) :=
  ⟨fun h24 H1 ex1 t H2 ex2 ht => q t H2 (ex1.trans ex2) (by rw [ht]; unfold overV; rw [if_pos h24]), fun h24 d H1 hd ex1 hdd => .inr ⟨rfl, d, _, rfl, hdd, fun t H2 ex2 ht => q t H2 (ex1.trans ex2) (by rw [ht]; unfold overV; rw [if_neg (by omega)])⟩⟩
theorem over_two (a b : List Nat) : ∃ x v, overV a b = [.str (S x), v] ∧ (v = .non ∨ (∃ b, v = .bl b) ∨ (∃ i, v = .int i) ∨ ∃ l, v = .str (S l)) := by
  unfold overV
  split
  · exact ⟨_, _, rfl, .inr (.inr (.inr ⟨_, rfl⟩))⟩
  · exact ⟨_, _, rfl, .inr (.inr (.inl ⟨_, rfl⟩))⟩
def spPairRight : Sp := fun vs H Q _ => ∃ (c d : Addr) (a b : List Nat) (ns : List Int), vs = [.ref d, .str (S a), .str (S b)] ∧ Dr ns c d H ∧ Rnd a ∧ Rnd b ∧ ∀ H', Kp d H H' → Dr ns c d H' → Q (.bl true) H'
abbrev s_l_pair_right : Stmt := topS 54
abbrev N_l_pair_right : List Str := ["_law_draw_here", "_law_first", "_law_second", "_law_due", "_law_kind", "_law_spot"]
theorem sc_l_pair_right : FnScope ["_law_draw_here", "_law_first", "_law_second", "_law_due", "_law_kind", "_law_spot"] ["_law_draw_here", "_law_first", "_law_second"] (defScope s_l_pair_right) := ⟨rfl, rfl, rfl, by decide +kernel, rfl, by decide +kernel, by decide +kernel⟩
theorem can_l_pair_right (T : Bi mg) (F : Defd K mg "_law_pair_right" s_l_pair_right ["_law_draw_here", "_law_first", "_law_second"]) (C_l_pick : Can P w K mg base L2.CX0 2 "_law_pick" ["_law_draw_here", "_law_many"] spPick) {A_BadRound A_TooLong A_BadBeats : Addr} (C_l_told : Can P w K mg base L2.CX0 27 "_law_told" ["_law_kind", "_law_first", "_law_second"] (spTold A_BadRound A_TooLong)) (C_l_equal : Can P w K mg base L2.CX0 2 "_law_equal" ["_law_told_here", "_law_due"] spEqual) (C_l_parting : Can P w K mg base L2.CX0 1 "_law_parting" ["_law_first", "_law_second"] spLParting) (C_l_over : Can P w K mg base L2.CX0 1 "_law_over" ["_law_first", "_law_second"] spOver) (C_turned : Can P w K mg base (L2.CX P w) 4 "turned" ["row", "beats"] (spTurned A_BadRound A_BadBeats)) : Can P w K mg base (L2.CX P w) 28 "_law_pair_right" ["_law_draw_here", "_law_first", "_law_second"] spPairRight := by
  refine canX F sc_l_pair_right (fun vs H Q E h => ?_) (fun f cdv A outer s H vs Q E hr h => ⟨_, (pss_cons (ps_set (i := 3) sc_l_pair_right.nd rfl (by first | exact Or.inl rfl | exact Or.inr rfl) (pe_can C_l_parting hr (by decide) rfl (pa_cons (pv 1) (pa_cons (pv 2) pa_nil))))
  (pss_cons (ps_if (pt_not (pt_val (pe_can C_l_equal hr (by decide) rfl (pa_cons (pe_can C_l_told hr (by decide) rfl (pa_cons pe_int (pa_cons (pv 1) (pa_cons (pv 2) pa_nil)))) (pa_cons (pe_tup (pa_cons (pe_strL [116, 111, 108, 100] (by decide +kernel)) (pa_cons (pv 3) pa_nil))) pa_nil))))) (pss_one (ps_ret pe_bl)) pss_nil)
  (pss_cons (ps_if (pt_not (pt_val (pe_can C_l_equal hr (by decide) rfl (pa_cons (pe_can C_l_told hr (by decide) rfl (pa_cons pe_int (pa_cons (pv 2) (pa_cons (pv 1) pa_nil)))) (pa_cons (pe_tup (pa_cons (pe_strL [116, 111, 108, 100] (by decide +kernel)) (pa_cons (pv 3) pa_nil))) pa_nil))))) (pss_one (ps_ret pe_bl)) pss_nil)
  (pss_cons (ps_if (pt_not (pt_val (pe_can C_l_equal hr (by decide) rfl (pa_cons (pe_can C_l_told hr (by decide) rfl (pa_cons pe_int (pa_cons (pv 1) (pa_cons (pv 2) pa_nil)))) (pa_cons (pe_tup (pa_cons (pe_strL [116, 111, 108, 100] (by decide +kernel)) (pa_cons (pe_cmpR op_isN1 (pv 3) pe_non (nomark _)) pa_nil))) pa_nil))))) (pss_one (ps_ret pe_bl)) pss_nil)
  (pss_cons (ps_for PassesOwn.leaving rfl (pi_list (pe_lst (pa_cons pe_int (pa_cons pe_int pa_nil)))) (pg_name (i := 4) sc_l_pair_right.nd rfl (by first | exact Or.inl rfl | exact Or.inr rfl))
    (pss_one (ps_if (pt_not (pt_val (pe_can C_l_equal hr (by decide) rfl (pa_cons (pe_can C_l_told hr (by decide) rfl (pa_cons (pv 4) (pa_cons (pv 1) (pa_cons (pv 2) pa_nil)))) (pa_cons (pe_can C_l_over hr (by decide) rfl (pa_cons (pv 1) (pa_cons (pv 2) pa_nil))) pa_nil))))) (pss_one (ps_ret pe_bl)) pss_nil)))
  (pss_cons (ps_set (i := 5) sc_l_pair_right.nd rfl (by first | exact Or.inl rfl | exact Or.inr rfl) (pe_can C_l_pick hr (by decide) rfl (pa_cons (pv 0) (pa_cons (pe_op op_powW pe_int pe_int) pa_nil))))
  (pss_cons (ps_if (pt_cmpR op_isN1 (pv 3) pe_non (nomark _)) (pss_one (ps_ret (pe_cmpR op_eq (pe_slice sl_strS (pe_canX C_turned hr (by decide) rfl (passes_call (takes_of rfl rfl rfl rfl) (fun _ _ _ _ h => h)) (pa_cons (pv 1) (pa_cons (pv 5) pa_nil))) po_none (po_some pe_int)) (pe_slice sl_strS (pe_canX C_turned hr (by decide) rfl (passes_call (takes_of rfl rfl rfl rfl) (fun _ _ _ _ h => h)) (pa_cons (pv 2) (pa_cons (pv 5) pa_nil))) po_none (po_some pe_int)) (nomark _)))) pss_nil)
  (pss_cons (ps_set (i := 5) sc_l_pair_right.nd rfl (by first | exact Or.inl rfl | exact Or.inr rfl) (pe_op op_add (pe_op op_mul (pe_op op_mul (pv 5) (pe_callB call_lenS (by rfl) T.b_len boot_len (pa_cons (pv 1) pa_nil))) (pe_callB call_lenS (by rfl) T.b_len boot_len (pa_cons (pv 2) pa_nil))) (pv 3)))
  (pss_one (ps_ret (pe_and (pe_cmpR op_ne (pe_slice sl_strS (pe_canX C_turned hr (by decide) rfl (passes_call (takes_of rfl rfl rfl rfl) (fun _ _ _ _ h => h)) (pa_cons (pv 1) (pa_cons (pv 3) pa_nil))) po_none (po_some pe_int)) (pe_slice sl_strS (pe_canX C_turned hr (by decide) rfl (passes_call (takes_of rfl rfl rfl rfl) (fun _ _ _ _ h => h)) (pa_cons (pv 2) (pa_cons (pv 3) pa_nil))) po_none (po_some pe_int)) (nomark _)) (pe_one (pe_cmpR op_eq (pe_slice sl_strS (pe_canX C_turned hr (by decide) rfl (passes_call (takes_of rfl rfl rfl rfl) (fun _ _ _ _ h => h)) (pa_cons (pv 1) (pa_cons (pv 5) pa_nil))) po_none (po_some pe_int)) (pe_slice sl_strS (pe_canX C_turned hr (by decide) rfl (passes_call (takes_of rfl rfl rfl rfl) (fun _ _ _ _ h => h)) (pa_cons (pv 1) (pa_cons (pv 3) pa_nil))) po_none (po_some pe_int)) (nomark _)))))))))))))), ?_⟩)
  · obtain ⟨_, _, _, _, _, rfl, _⟩ := h
    rfl
  · obtain ⟨c, d, a, b, ns, rfl, hD, ha, hb, q⟩ := h
    have la := ha.le
    have lb := hb.le
    rcases part_ex a b with hs | ⟨tt, hp⟩
    · walk_at "rd"
      refine ⟨a, b, rfl, ha, hb, fun t' ht' => (part_not ht' hs).elim, fun _ => ?_⟩
      walk_at "rd"
      refine ⟨rfl, 0, _, _, rfl, .inl ⟨rfl, _, _, rfl, .inl ⟨a, rfl, ha, .inl ⟨b, rfl, hb, ⟨fun t' H1 ex1 ht' t1 H2 ex2 ht1 => (part_not ht' hs).elim, fun H01 ex01 _ t0 H02 ex02 ht0 => ?_⟩⟩⟩⟩⟩
      have exA0 : Ex H H02 := ex01.trans ex02
      walk_at "rd"
      refine ⟨small (by show 2 ≤ 1000000; decide), fun s0 hn0 => ?_⟩
      have ex03 := Evl.Ex.new (o := .tup [V.str (S [116, 111, 108, 100]), .non]) hn0
      have g0 : (upd H02 s0 (.tup [V.str (S [116, 111, 108, 100]), .non])) s0 = some (.tup [V.str (S [116, 111, 108, 100]), .non]) := upd_same
      generalize upd H02 s0 (.tup [V.str (S [116, 111, 108, 100]), .non]) = H03 at ex03 g0 ⊢
      walk_at "rd"
      refine ⟨t0, s0, wTold, .non, rfl, ex03 _ _ ht0, g0, .inl rfl, ?_⟩
      have exB0 : Ex H H03 := exA0.trans ex03
      clear exA0 ex01 ex02 ex03 ht0 g0
      walk_at "rd"
      refine ⟨rfl, 0, _, _, rfl, .inl ⟨rfl, _, _, rfl, .inl ⟨b, rfl, hb, .inl ⟨a, rfl, ha, ⟨fun t' H1 ex1 ht' t1 H2 ex2 ht1 => (part_not ht' hs.symm).elim, fun H11 ex11 _ t1 H12 ex12 ht1 => ?_⟩⟩⟩⟩⟩
      have exA1 : Ex H H12 := exB0.trans (ex11.trans ex12)
      walk_at "rd"
      refine ⟨small (by show 2 ≤ 1000000; decide), fun s1 hn1 => ?_⟩
      have ex13 := Evl.Ex.new (o := .tup [V.str (S [116, 111, 108, 100]), .non]) hn1
      have g1 : (upd H12 s1 (.tup [V.str (S [116, 111, 108, 100]), .non])) s1 = some (.tup [V.str (S [116, 111, 108, 100]), .non]) := upd_same
      generalize upd H12 s1 (.tup [V.str (S [116, 111, 108, 100]), .non]) = H13 at ex13 g1 ⊢
      walk_at "rd"
      refine ⟨t1, s1, wTold, .non, rfl, ex13 _ _ ht1, g1, .inl rfl, ?_⟩
      have exB1 : Ex H H13 := exA1.trans ex13
      clear exA1 ex11 ex12 ex13 ht1 g1
      walk_at "rd"
      refine ⟨rfl, 2, _, _, rfl, .inr (.inr (.inl ⟨rfl, _, _, rfl, .inl ⟨a, rfl, ha, .inl ⟨b, rfl, hb, fun H21 ex21 t2 H22 ex22 ht2 => ?_⟩⟩⟩))⟩
      rw [sameB.mpr hs] at ht2
      walk_at "rd"
      refine ⟨small (by show 2 ≤ 1000000; decide), fun s2 hn2 => ?_⟩
      have ex23 := Evl.Ex.new (o := .tup [V.str (S [116, 111, 108, 100]), .bl true]) hn2
      have g2 : (upd H22 s2 (.tup [V.str (S [116, 111, 108, 100]), .bl true])) s2 = some (.tup [V.str (S [116, 111, 108, 100]), .bl true]) := upd_same
      generalize upd H22 s2 (.tup [V.str (S [116, 111, 108, 100]), .bl true]) = H23 at ex23 g2 ⊢
      walk_at "rd"
      refine ⟨t2, s2, wTold, .bl true, rfl, ex23 _ _ ht2, g2, .inr (.inl ⟨_, rfl⟩), ?_⟩
      have exB2 : Ex H H23 := exB1.trans ((ex21.trans ex22).trans ex23)
      clear exB1 exB0 ex21 ex22 ex23 ht2 g2
      walk_at "rd"
      refine ⟨small (by show 2 ≤ 1000000; decide), fun m hm => ?_⟩
      have exm := Evl.Ex.new (o := .lst [.int 1, .int 3]) hm
      have gm : (upd H23 m (.lst [.int 1, .int 3])) m = some (.lst [.int 1, .int 3]) := upd_same
      generalize upd H23 m (.lst [.int 1, .int 3]) = Hm at exm gm ⊢
      walk_at "rd"
      refine forL (xs := [.int 1, .int 3]) (fun _ σ' H' => ∃ o4 o5, σ' = [some (.ref d), some (.str (S a)), some (.str (S b)), some .non, o4, o5] ∧ Ex Hm H') ⟨_, _, rfl, Evl.Ex.refl _⟩ (fun i σ' H' hi hJ => ?_) (fun i y σ' H5 hy hJ => ?_) (fun σ' H5 hJ => ?_)
      · obtain ⟨o4, o5, rfl, ex⟩ := hJ
        exact Evl.sq_of (ex _ _ gm)
      · obtain ⟨o4, o5, rfl, ex⟩ := hJ
        have hm2 := List.mem_of_getElem? hy
        simp only [List.mem_cons, List.not_mem_nil, or_false] at hm2
        obtain ⟨x, v, hov, kv⟩ := over_two a b
        rcases hm2 with rfl | rfl
        · walk_at "rd"
          refine ⟨rfl, 1, _, _, rfl, .inr (.inl ⟨rfl, _, _, rfl, .inl ⟨a, rfl, ha, .inl ⟨b, rfl, hb, laid_told fun t3 H6 ex6 ht3 => ?_⟩⟩⟩)⟩
          walk_at "rd"
          refine ⟨a, b, rfl, ha, hb, fun t4 H7 ex7 ht4 => ?_⟩
          rw [hov] at ht3 ht4
          walk_at "rd"
          refine ⟨t3, t4, x, v, rfl, ex7 _ _ ht3, ht4, kv, ?_⟩
          walk_at "rd"
          exact ⟨_, _, rfl, (ex.trans ex6).trans ex7⟩
        · walk_at "rd"
          refine ⟨rfl, 3, _, _, rfl, .inr (.inr (.inr ⟨rfl, a, b, rfl, rfl, ha, hb, laid_told fun t3 H6 ex6 ht3 => ?_⟩))⟩
          walk_at "rd"
          refine ⟨a, b, rfl, ha, hb, fun t4 H7 ex7 ht4 => ?_⟩
          rw [hov] at ht3 ht4
          walk_at "rd"
          refine ⟨t3, t4, x, v, rfl, ex7 _ _ ht3, ht4, kv, ?_⟩
          walk_at "rd"
          exact ⟨_, _, rfl, (ex.trans ex6).trans ex7⟩
      obtain ⟨o4, o5, rfl, ex⟩ := hJ
      have exC : Ex H H5 := exB2.trans (exm.trans ex)
      have hD5 := hD.ex' exC
      clear exB2 exm gm ex
      walk_at "rd"
      refine ⟨c, d, _, ns, rfl, hD5, by decide, fun z H6 z0 z1 kp6 hD6 => ?_⟩
      have kpC := (Kp.of (d := d) exC).trans kp6
      walk_at "rd"
      have r1 := rot_len a z.toNat
      have r2 := rot_len b z.toNat
      refine ⟨_, _, rfl, .inl ⟨a, rfl, ha, .inl ⟨z, rfl, z0, fun H7 ex7 => ?_⟩⟩⟩
      walk_at "rd"
      refine ⟨_, _, rfl, .inl ⟨b, rfl, hb, .inl ⟨z, rfl, z0, fun H8 ex8 => ?_⟩⟩⟩
      walk_at "rd"
      rw [cut_to (by decide), cut_to (by decide)]
      have e : (rot a z.toNat).take 1 = (rot b z.toNat).take 1 := by rw [rot_head ha.ne, rot_head hb.ne, hs z.toNat]
      show Q (.bl (decide ((rot a z.toNat).take 1 = (rot b z.toNat).take 1))) H8
      rw [decide_eq_true e]
      exact q H8 (kpC.trans (Kp.of (ex7.trans ex8))) (hD6.ex' (ex7.trans ex8))
    · walk_at "rd"
      refine ⟨a, b, rfl, ha, hb, fun t' ht' => ?_, fun hs => (part_not hp hs).elim⟩
      rw [part_uniq ht' hp]
      clear ht'
      walk_at "rd"
      refine ⟨rfl, 0, _, _, rfl, .inl ⟨rfl, _, _, rfl, .inl ⟨a, rfl, ha, .inl ⟨b, rfl, hb, ⟨fun t' H01 ex01 ht' t0 H02 ex02 ht0 => ?_, fun H1 ex1 hs t1 H2 ex2 ht1 => (part_not hp hs).elim⟩⟩⟩⟩⟩
      rw [part_uniq ht' hp] at ht0
      clear ht'
      have exA0 : Ex H H02 := ex01.trans ex02
      walk_at "rd"
      refine ⟨small (by show 2 ≤ 1000000; decide), fun s0 hn0 => ?_⟩
      have ex03 := Evl.Ex.new (o := .tup [V.str (S [116, 111, 108, 100]), (.int (tt : Int))]) hn0
      have g0 : (upd H02 s0 (.tup [V.str (S [116, 111, 108, 100]), (.int (tt : Int))])) s0 = some (.tup [V.str (S [116, 111, 108, 100]), (.int (tt : Int))]) := upd_same
      generalize upd H02 s0 (.tup [V.str (S [116, 111, 108, 100]), (.int (tt : Int))]) = H03 at ex03 g0 ⊢
      walk_at "rd"
      refine ⟨t0, s0, wTold, (.int (tt : Int)), rfl, ex03 _ _ ht0, g0, .inr (.inr (.inl ⟨_, rfl⟩)), ?_⟩
      have exB0 : Ex H H03 := exA0.trans ex03
      clear exA0 ex01 ex02 ex03 ht0 g0
      walk_at "rd"
      refine ⟨rfl, 0, _, _, rfl, .inl ⟨rfl, _, _, rfl, .inl ⟨b, rfl, hb, .inl ⟨a, rfl, ha, ⟨fun t' H11 ex11 ht' t1 H12 ex12 ht1 => ?_, fun H1 ex1 hs t1 H2 ex2 ht1 => (part_not (part_symm hp) hs).elim⟩⟩⟩⟩⟩
      rw [part_uniq ht' (part_symm hp)] at ht1
      clear ht'
      have exA1 : Ex H H12 := exB0.trans (ex11.trans ex12)
      walk_at "rd"
      refine ⟨small (by show 2 ≤ 1000000; decide), fun s1 hn1 => ?_⟩
      have ex13 := Evl.Ex.new (o := .tup [V.str (S [116, 111, 108, 100]), (.int (tt : Int))]) hn1
      have g1 : (upd H12 s1 (.tup [V.str (S [116, 111, 108, 100]), (.int (tt : Int))])) s1 = some (.tup [V.str (S [116, 111, 108, 100]), (.int (tt : Int))]) := upd_same
      generalize upd H12 s1 (.tup [V.str (S [116, 111, 108, 100]), (.int (tt : Int))]) = H13 at ex13 g1 ⊢
      walk_at "rd"
      refine ⟨t1, s1, wTold, (.int (tt : Int)), rfl, ex13 _ _ ht1, g1, .inr (.inr (.inl ⟨_, rfl⟩)), ?_⟩
      have exB1 : Ex H H13 := exA1.trans ex13
      clear exA1 ex11 ex12 ex13 ht1 g1
      walk_at "rd"
      refine ⟨rfl, 2, _, _, rfl, .inr (.inr (.inl ⟨rfl, _, _, rfl, .inl ⟨a, rfl, ha, .inl ⟨b, rfl, hb, fun H21 ex21 t2 H22 ex22 ht2 => ?_⟩⟩⟩))⟩
      rw [sameB_false.mpr (fun z => part_not hp z)] at ht2
      walk_at "rd"
      refine ⟨small (by show 2 ≤ 1000000; decide), fun s2 hn2 => ?_⟩
      have ex23 := Evl.Ex.new (o := .tup [V.str (S [116, 111, 108, 100]), .bl false]) hn2
      have g2 : (upd H22 s2 (.tup [V.str (S [116, 111, 108, 100]), .bl false])) s2 = some (.tup [V.str (S [116, 111, 108, 100]), .bl false]) := upd_same
      generalize upd H22 s2 (.tup [V.str (S [116, 111, 108, 100]), .bl false]) = H23 at ex23 g2 ⊢
      walk_at "rd"
      refine ⟨t2, s2, wTold, .bl false, rfl, ex23 _ _ ht2, g2, .inr (.inl ⟨_, rfl⟩), ?_⟩
      have exB2 : Ex H H23 := exB1.trans ((ex21.trans ex22).trans ex23)
      clear exB1 exB0 ex21 ex22 ex23 ht2 g2
      walk_at "rd"
      refine ⟨small (by show 2 ≤ 1000000; decide), fun m hm => ?_⟩
      have exm := Evl.Ex.new (o := .lst [.int 1, .int 3]) hm
      have gm : (upd H23 m (.lst [.int 1, .int 3])) m = some (.lst [.int 1, .int 3]) := upd_same
      generalize upd H23 m (.lst [.int 1, .int 3]) = Hm at exm gm ⊢
      walk_at "rd"
      refine forL (xs := [.int 1, .int 3]) (fun _ σ' H' => ∃ o4 o5, σ' = [some (.ref d), some (.str (S a)), some (.str (S b)), some (.int (tt : Int)), o4, o5] ∧ Ex Hm H') ⟨_, _, rfl, Evl.Ex.refl _⟩ (fun i σ' H' hi hJ => ?_) (fun i y σ' H5 hy hJ => ?_) (fun σ' H5 hJ => ?_)
      · obtain ⟨o4, o5, rfl, ex⟩ := hJ
        exact Evl.sq_of (ex _ _ gm)
      · obtain ⟨o4, o5, rfl, ex⟩ := hJ
        have hm2 := List.mem_of_getElem? hy
        simp only [List.mem_cons, List.not_mem_nil, or_false] at hm2
        obtain ⟨x, v, hov, kv⟩ := over_two a b
        rcases hm2 with rfl | rfl
        · walk_at "rd"
          refine ⟨rfl, 1, _, _, rfl, .inr (.inl ⟨rfl, _, _, rfl, .inl ⟨a, rfl, ha, .inl ⟨b, rfl, hb, laid_told fun t3 H6 ex6 ht3 => ?_⟩⟩⟩)⟩
          walk_at "rd"
          refine ⟨a, b, rfl, ha, hb, fun t4 H7 ex7 ht4 => ?_⟩
          rw [hov] at ht3 ht4
          walk_at "rd"
          refine ⟨t3, t4, x, v, rfl, ex7 _ _ ht3, ht4, kv, ?_⟩
          walk_at "rd"
          exact ⟨_, _, rfl, (ex.trans ex6).trans ex7⟩
        · walk_at "rd"
          refine ⟨rfl, 3, _, _, rfl, .inr (.inr (.inr ⟨rfl, a, b, rfl, rfl, ha, hb, laid_told fun t3 H6 ex6 ht3 => ?_⟩))⟩
          walk_at "rd"
          refine ⟨a, b, rfl, ha, hb, fun t4 H7 ex7 ht4 => ?_⟩
          rw [hov] at ht3 ht4
          walk_at "rd"
          refine ⟨t3, t4, x, v, rfl, ex7 _ _ ht3, ht4, kv, ?_⟩
          walk_at "rd"
          exact ⟨_, _, rfl, (ex.trans ex6).trans ex7⟩
      obtain ⟨o4, o5, rfl, ex⟩ := hJ
      have exC : Ex H H5 := exB2.trans (exm.trans ex)
      have hD5 := hD.ex' exC
      clear exB2 exm gm ex
      walk_at "rd"
      refine ⟨c, d, _, ns, rfl, hD5, by decide, fun z H6 z0 z1 kp6 hD6 => ?_⟩
      have kpC := (Kp.of (d := d) exC).trans kp6
      walk_at "rd"
      obtain ⟨zn, rfl⟩ : ∃ zn : Nat, z = zn := ⟨z.toNat, by omega⟩
      have hc1 : CMul (zn : Int) (a.length : Int) := .inr ⟨by omega, by omega⟩
      have hc2 : CMul ((zn : Int) * (a.length : Int)) (b.length : Int) := .inr ⟨by omega, by omega⟩
      have eS : (zn : Int) * (a.length : Int) * (b.length : Int) + (tt : Int) = ((zn * a.length * b.length + tt : Nat) : Int) := by rw [Int.natCast_add, Int.natCast_mul, Int.natCast_mul]
      walk_at "rd"
      rw [eS]
      have r1 := rot_len a (tt : Int).toNat
      have r2 := rot_len b (tt : Int).toNat
      have r3 := rot_len a (((zn * a.length * b.length + tt : Nat) : Int)).toNat
      refine ⟨_, _, rfl, .inl ⟨a, rfl, ha, .inl ⟨(tt : Int), rfl, by omega, fun H7 ex7 => ?_⟩⟩⟩
      walk_at "rd"
      refine ⟨_, _, rfl, .inl ⟨b, rfl, hb, .inl ⟨(tt : Int), rfl, by omega, fun H8 ex8 => ?_⟩⟩⟩
      walk_at "rd"
      rw [cut_to (by decide), cut_to (by decide), Int.toNat_natCast]
      show if (!decide ((rot a tt).take 1 = (rot b tt).take 1)) = true then _ else _
      rw [rot_head ha.ne, rot_head hb.ne]
      refine r_iteN (fun _ => ?_) (fun h => absurd (by injection h) hp.1)
      walk_at "rd"
      refine ⟨_, _, rfl, .inl ⟨a, rfl, ha, .inl ⟨_, rfl, by omega, fun H9 ex9 => ?_⟩⟩⟩
      walk_at "rd"
      refine ⟨_, _, rfl, .inl ⟨a, rfl, ha, .inl ⟨(tt : Int), rfl, by omega, fun H10 ex10 => ?_⟩⟩⟩
      walk_at "rd"
      rw [cut_to (by decide), cut_to (by decide), Int.toNat_natCast, Int.toNat_natCast]
      have e : (rot a (zn * a.length * b.length + tt)).take 1 = (rot a tt).take 1 := by
        rw [rot_head ha.ne, rot_head ha.ne, show zn * a.length * b.length + tt = tt + a.length * (zn * b.length) by rw [Nat.mul_comm zn, Nat.mul_assoc, Nat.add_comm], at_add]
      show Q (.bl (decide ((rot a (zn * a.length * b.length + tt)).take 1 = (rot a tt).take 1))) H10
      rw [decide_eq_true e]
      exact q H10 (kpC.trans (Kp.of ((ex7.trans ex8).trans (ex9.trans ex10)))) (hD6.ex' ((ex7.trans ex8).trans (ex9.trans ex10)))

end
end Fk

set_option Elab.async false
set_option linter.all false
set_option maxRecDepth 100000
set_option maxHeartbeats 4000000
namespace Fk
open PySem PySem.Spec PyProof.Rows L2 Fg Fm
local macro_rules | `(tactic| walk_at "rd1") => `(tactic| first
  | with_reducible refine r_seq ?_
  | with_reducible refine r_asg ?_
  | with_reducible refine r_gname ?_
  | with_reducible refine r_gsub ?_
  | with_reducible refine r_ret ?_
  | with_reducible refine r_retN ?_
  | with_reducible refine r_next ?_
  | with_reducible refine r_drop ?_
  | with_reducible refine r_ifS ?_
  | with_reducible refine r_if ?_
  | with_reducible refine r_par ?_
  | with_reducible refine r_pair ?_
  | with_reducible refine r_test ?_
  | with_reducible refine r_tB ?_
  | with_reducible refine r_not ?_
  | with_reducible refine r_and ?_
  | with_reducible refine r_or ?_
  | with_reducible refine r_andV ?_
  | with_reducible refine r_orV ?_
  | with_reducible refine r_notV ?_
  | with_reducible refine r_nil ?_
  | with_reducible refine r_cons ?_
  | with_reducible refine r_call ?_
  | with_reducible refine r_callS ?_
  | with_reducible refine r_cb ?_
  | with_reducible refine r_then ?_
  | with_reducible refine r_tup ?_
  | with_reducible refine r_lst ?_
  | with_reducible refine r_sl ?_
  | with_reducible refine r_nopart ?_
  | with_reducible refine r_part ?_
  | with_reducible refine r_lcR1 ?_
  | with_reducible refine r_lcR2 ?_
  | with_reducible refine r_lcL ?_
  | with_reducible refine r_lcT ?_
  | with_reducible refine r_forR1 ?_
  | with_reducible refine r_forR2 ?_
  | with_reducible refine r_forL ?_
  | with_reducible refine r_forT ?_
  | with_reducible refine r_forE ?_
  | with_reducible refine r_strE ?_
  | ((with_reducible refine r_rng1 ?hc ?_); (case hc => omega))
  | ((with_reducible refine r_rng2 ?hc ?_); (case hc => omega))
  | ((with_reducible refine' r_refL ?hc ?_); (case hc => first | assumption | exact Evl.sq_of (by assumption)))
  | ((with_reducible refine' r_refT ?hc ?_); (case hc => first | assumption | exact Evl.st_of (by assumption)))
  | with_reducible refine r_op ?_
  | with_reducible refine r_un ?_
  | with_reducible refine r_chain ?_
  | ((with_reducible refine' r_var ?hv ?_); (case hv => exact rfl))
  | with_reducible refine r_cS ?_
  | with_reducible refine r_cs ?_
  | with_reducible refine r_c ?_
  | with_reducible refine r_yes ?_
  | with_reducible refine r_bm ?_
  | with_reducible refine r_bl ?_
  | with_reducible refine r_in ?_
  | with_reducible refine r_ty ?_
  | with_reducible refine r_I0 ?_
  | ((with_reducible refine r_I ?hc ?_); (case hc => first | assumption | (show (0 : Int) < _; decide) | exact Or.inr ⟨by decide, by decide⟩ | exact Or.inr ⟨by omega, by omega⟩ | exact Or.inl ⟨by decide, by decide⟩ | exact (show CDivW _ _ from ⟨by decide, by decide +kernel⟩) | exact (show CPowW _ _ from ⟨by decide, by decide +kernel⟩) | (show (0 : Int) < _; omega)))
  | with_reducible refine r_U ?_
  | with_reducible refine r_eqI ?_
  | with_reducible refine r_neI ?_
  | with_reducible refine r_eqS ?_
  | with_reducible refine r_neS ?_
  | with_reducible refine r_eqB ?_
  | with_reducible refine r_neB ?_
  | with_reducible refine r_niS ?_
  | with_reducible refine r_inSS ?_
  | ((with_reducible refine r_slSS ?hc ?_); (case hc => first | exact small (by omega) | exact small (by simp; omega)))
  | ((with_reducible refine r_lenS ?hc ?_); (case hc => first | exact small (by omega) | exact small (by simp; omega)))
  | ((with_reducible refine' r_lenL ?hc ?_); (case hc => first | assumption | exact Evl.sq_of (by assumption)))
  | ((with_reducible refine' r_lenT ?hc ?_); (case hc => first | assumption | exact Evl.st_of (by assumption)))
  | ((with_reducible refine' r_ixL ?h1 ?h2 ?h3 ?_); (case h1 => first | assumption | exact Evl.sq_of (by assumption) | exact Evl.sq_of upd_same); (case h2 => first | decide | omega); (case h3 => first | exact rfl | assumption))
  | ((with_reducible refine' r_ixT ?h1 ?h2 ?h3 ?_); (case h1 => first | assumption | exact Evl.st_of (by assumption)); (case h2 => first | decide | omega); (case h3 => first | exact rfl | assumption))
  | with_reducible refine r_T ?_
  | with_reducible refine r_notNn ?_
  | with_reducible refine r_notN_int ?_
  | with_reducible refine r_notN_str ?_
  | with_reducible refine r_notN_ref ?_
  | with_reducible refine r_isNn ?_
  | with_reducible refine r_isN_int ?_
  | with_reducible refine r_isN_str ?_
  | with_reducible refine r_isN_ref ?_
  | ((with_reducible refine' r_isi ?ht ?hk ?_); (case ht => first | exact .base (.int _) | exact .base (.bl _) | exact .base (.str _) | exact .base .non | exact .base (.lst (by assumption)) | exact .base (.tup (by assumption))); (case hk => first | exact kb_int_int | exact kb_int_bool | exact kb_int_str | exact kb_int_list | exact kb_int_tuple | exact kb_bool_int | exact kb_bool_bool | exact kb_bool_str | exact kb_bool_list | exact kb_bool_tuple | exact kb_str_int | exact kb_str_bool | exact kb_str_str | exact kb_str_list | exact kb_str_tuple | exact kb_NoneType_int | exact kb_NoneType_bool | exact kb_NoneType_str | exact kb_NoneType_list | exact kb_NoneType_tuple | exact kb_list_int | exact kb_list_bool | exact kb_list_str | exact kb_list_list | exact kb_list_tuple | exact kb_tuple_int | exact kb_tuple_bool | exact kb_tuple_str | exact kb_tuple_list | exact kb_tuple_tuple))
  | with_reducible refine r_F ?_
  | with_reducible refine r_nT ?_
  | with_reducible refine r_nF ?_
  | with_reducible refine r_mko ?_
  | with_reducible refine r_xf ?_
  | ((with_reducible refine' r_sum ?hc ?_); (case hc => first | assumption | exact Evl.sq_of (by assumption)))
  | ((with_reducible refine' r_setL ?h1 ?h2 ?h3 ?_); (case h1 => first | assumption | exact upd_same); (case h2 => first | decide | omega); (case h3 => first | (show _ < _; decide) | (simp; done)))
  | with_reducible refine r_int ?_
  | with_reducible refine r_abs ?_)
local macro_rules | `(tactic| walk_at "rd") => `(tactic| repeat (walk_at "rd1"))

section
variable {P : Program} {w : World} {K : PySem.W.Frag} {mg : Str → Option Value} {base : Heap}
/-- a thing that is no round, and stands apart from the draw -/
structure BadV (d : Addr) (H : Hp) (v : V) (n : Int) : Prop where
  bad : BadRd H v n
  off : ∀ b, v = .ref b → b ≠ d
theorem BadV.kp {d : Addr} {H H' : Hp} {v : V} {n : Int} (h : BadV d H v n) (k : Kp d H H') : BadV d H' v n := by
  refine ⟨?_, h.off⟩
  have o := h.off
  rcases h.bad with ⟨h1, h2⟩ | h3
  · refine .inl ⟨h1, ?_⟩
    rcases h2 with (h | h | h | ⟨a, xs, e, h⟩ | ⟨a, xs, e, h⟩) | h
    · exact .inl (.inl h)
    · exact .inl (.inr (.inl h))
    · exact .inl (.inr (.inr (.inl h)))
    · exact .inl (.inr (.inr (.inr (.inl ⟨a, xs, e, k _ _ (o a e) h⟩))))
    · exact .inl (.inr (.inr (.inr (.inr ⟨a, xs, e, k _ _ (o a e) h⟩))))
    · exact .inr h
  · exact .inr h3
def spBadRound : Sp := fun vs H Q _ => ∃ (c d : Addr) (l : List Nat) (ns : List Int), vs = [.ref d, .str (S l)] ∧ Dr ns c d H ∧ Rnd l ∧ ∀ v n p H', BadV d H' v n → Kp d H H' → Dr ns c d H' → p ≠ d → H' p = some (.tup [v, .int n]) → Q (.ref p) H'
theorem bad_sign {k : Int} (h0 : 0 ≤ k) (h1 : k < 8 ∨ k = 0) : ∃ x, ([120, 87, 71, 48, 45, 44, 32, 38] : List Nat)[k.toNat]? = some x ∧ ¬ Sg x := by
  obtain ⟨j, rfl⟩ : ∃ j : Nat, k = j := ⟨k.toNat, by omega⟩
  rw [Int.toNat_natCast]
  have hj : j < 8 := by omega
  match j, hj with
  | 0, _ => exact ⟨_, rfl, by unfold Sg; decide⟩
  | 1, _ => exact ⟨_, rfl, by unfold Sg; decide⟩
  | 2, _ => exact ⟨_, rfl, by unfold Sg; decide⟩
  | 3, _ => exact ⟨_, rfl, by unfold Sg; decide⟩
  | 4, _ => exact ⟨_, rfl, by unfold Sg; decide⟩
  | 5, _ => exact ⟨_, rfl, by unfold Sg; decide⟩
  | 6, _ => exact ⟨_, rfl, by unfold Sg; decide⟩
  | 7, _ => exact ⟨_, rfl, by unfold Sg; decide⟩
theorem put_len {l : List Nat} {x i : Nat} (h : i < l.length) : (l.take i ++ [x] ++ l.drop (i + 1)).length = l.length := by
  rw [List.length_append, List.length_append, List.length_singleton, List.length_take, List.length_drop]
  omega
theorem put_at {l : List Nat} {x i : Nat} (h : i < l.length) : (l.take i ++ [x] ++ l.drop (i + 1))[i]? = some x := by
  rw [List.append_assoc, List.getElem?_append_right (by rw [List.length_take]; omega), List.length_take, Nat.min_eq_left (by omega), Nat.sub_self]
  rfl
theorem put_lt {l : List Nat} {x i j : Nat} (h : i < l.length) (hj : j < i) : (l.take i ++ [x] ++ l.drop (i + 1))[j]? = l[j]? := by
  rw [List.append_assoc, List.getElem?_append_left (by rw [List.length_take]; omega), List.getElem?_take_of_lt hj]
abbrev s_l_bad_round : Stmt := topS 55
abbrev N_l_bad_round : List Str := ["_law_draw_here", "_law_row", "_law_place", "_law_later", "_law_bad", "_law_menu"]
theorem sc_l_bad_round : FnScope ["_law_draw_here", "_law_row", "_law_place", "_law_later", "_law_bad", "_law_menu"] ["_law_draw_here", "_law_row"] (defScope s_l_bad_round) := ⟨rfl, rfl, rfl, by decide +kernel, rfl, by decide +kernel, by decide +kernel⟩
theorem can_l_bad_round (T : Bi mg) (F : Defd K mg "_law_bad_round" s_l_bad_round ["_law_draw_here", "_law_row"]) (C_l_pick : Can P w K mg base L2.CX0 2 "_law_pick" ["_law_draw_here", "_law_many"] spPick) : Can P w K mg base L2.CX0 3 "_law_bad_round" ["_law_draw_here", "_law_row"] spBadRound := by
  refine can0 F sc_l_bad_round (fun vs H Q E h => ?_) (fun f cdv A outer s H vs Q E hr h => ⟨_, (pss_cons (ps_if (pt_cmpR op_eq (pe_can C_l_pick hr (by decide) rfl (pa_cons (pv 0) (pa_cons pe_int pa_nil))) pe_int (nomark _)) (pss_cons (ps_set (i := 5) sc_l_bad_round.nd rfl (by first | exact Or.inl rfl | exact Or.inr rfl) (pe_lst (pa_cons (pe_strL [] (by decide +kernel)) (pa_cons (pe_slice sl_strS (pe_op op_repS (pv 1) pe_int) po_none (po_some pe_int)) (pa_cons (pe_op op_repS (pe_strL [120] (by decide +kernel)) pe_int) (pa_cons pe_non (pa_cons pe_int (pa_cons pe_bl (pa_cons (pe_tup (pa_cons (pe_strL [119] (by decide +kernel)) pa_nil)) (pa_cons (pe_lst (pa_cons (pe_strL [119] (by decide +kernel)) pa_nil)) pa_nil))))))))))
  (pss_one (ps_ret (pe_tup (pa_cons (pe_ix ix_list (pv 5) (pe_can C_l_pick hr (by decide) rfl (pa_cons (pv 0) (pa_cons pe_int pa_nil))) (fun _ _ => rfl)) (pa_cons (pe_un un_neg pe_int) pa_nil)))))) pss_nil)
  (pss_cons (ps_set (i := 2) sc_l_bad_round.nd rfl (by first | exact Or.inl rfl | exact Or.inr rfl) (pe_can C_l_pick hr (by decide) rfl (pa_cons (pv 0) (pa_cons (pe_callB call_lenS (by rfl) T.b_len boot_len (pa_cons (pv 1) pa_nil)) pa_nil))))
  (pss_cons (ps_set (i := 3) sc_l_bad_round.nd rfl (by first | exact Or.inl rfl | exact Or.inr rfl) (pe_op op_add (pv 2) (pe_can C_l_pick hr (by decide) rfl (pa_cons (pv 0) (pa_cons (pe_op op_sub (pe_callB call_lenS (by rfl) T.b_len boot_len (pa_cons (pv 1) pa_nil)) (pv 2)) pa_nil)))))
  (pss_cons (ps_set (i := 4) sc_l_bad_round.nd rfl (by first | exact Or.inl rfl | exact Or.inr rfl) (pe_op op_catS (pe_op op_catS (pe_slice sl_strS (pv 1) po_none (po_some (pv 3))) (pe_ix ix_strS (pe_strL [120, 87, 71, 48, 45, 44, 32, 38] (by decide +kernel)) (pe_can C_l_pick hr (by decide) rfl (pa_cons (pv 0) (pa_cons pe_int pa_nil))) (fun _ _ => rfl))) (pe_slice sl_strS (pv 1) (po_some (pe_op op_add (pv 3) pe_int)) po_none)))
  (pss_one (ps_ret (pe_tup (pa_cons (pe_op op_catS (pe_op op_catS (pe_slice sl_strS (pv 4) po_none (po_some (pv 2))) (pe_ix ix_strS (pe_strL [120, 87, 71, 48, 45, 44, 32, 38] (by decide +kernel)) (pe_can C_l_pick hr (by decide) rfl (pa_cons (pv 0) (pa_cons pe_int pa_nil))) (fun _ _ => rfl))) (pe_slice sl_strS (pv 4) (po_some (pe_op op_add (pv 2) pe_int)) po_none)) (pa_cons (pv 2) pa_nil))))))))), ?_⟩)
  · obtain ⟨_, _, _, _, rfl, _⟩ := h
    rfl
  · obtain ⟨c, d, l, ns, rfl, hD, hl, q⟩ := h
    have l1 := hl.pos
    have l2 := hl.le
    walk_at "rd"
    refine ⟨c, d, 3, ns, rfl, hD, by decide, fun k H1 k0 k1 kp1 hD1 => ?_⟩
    walk_at "rd"
    refine r_ite (fun h3 => ?_) (fun h3 => ?_)
    · walk_at "rd"
      refine r_repS (by decide) (by decide) (small (by show l.length * 25 ≤ 1000000; omega)) ?_
      have lr : ((List.replicate (25 : Int).toNat l).flatten).length = 25 * l.length := rep_len l 25
      generalize (List.replicate (25 : Int).toNat l).flatten = lw at lr ⊢
      walk_at "rd"
      refine r_repS (by decide) (by decide) (small (by decide)) ?_
      have lc : (cutL lw none (some 25)).length = 25 := by
        rw [cut_to (by decide), List.length_take, lr]
        show min 25 _ = _
        omega
      generalize cutL lw none (some 25) = lz at lc ⊢
      have lx : ((List.replicate (25 : Int).toNat ([120] : List Nat)).flatten).length = 25 := by decide
      generalize (List.replicate (25 : Int).toNat ([120] : List Nat)).flatten = lv at lx ⊢
      walk_at "rd"
      refine ⟨small (by show 1 ≤ 1000000; decide), fun t1 hn1 => ?_⟩
      have ex2 := Evl.Ex.new (o := .tup [V.str (S [119])]) hn1
      have ht1 : (upd H1 t1 (.tup [V.str (S [119])])) t1 = some (.tup [V.str (S [119])]) := upd_same
      generalize upd H1 t1 (.tup [V.str (S [119])]) = H2 at ex2 ht1 ⊢
      walk_at "rd"
      refine ⟨small (by show 1 ≤ 1000000; decide), fun t2 hn2 => ?_⟩
      have ex3 := Evl.Ex.new (o := .lst [V.str (S [119])]) hn2
      have ht2 : (upd H2 t2 (.lst [V.str (S [119])])) t2 = some (.lst [V.str (S [119])]) := upd_same
      generalize upd H2 t2 (.lst [V.str (S [119])]) = H3 at ex3 ht2 ⊢
      walk_at "rd"
      refine ⟨small (by show 8 ≤ 1000000; decide), fun m hn3 => ?_⟩
      have ex4 := Evl.Ex.new (o := .lst [.str (S []), .str (S lz), .str (S lv), .non, .int 7, .bl true, .ref t1, .ref t2]) hn3
      have hm : (upd H3 m (.lst [.str (S []), .str (S lz), .str (S lv), .non, .int 7, .bl true, .ref t1, .ref t2])) m = some (.lst [.str (S []), .str (S lz), .str (S lv), .non, .int 7, .bl true, .ref t1, .ref t2]) := upd_same
      generalize upd H3 m (.lst [.str (S []), .str (S lz), .str (S lv), .non, .int 7, .bl true, .ref t1, .ref t2]) = H4 at ex4 hm ⊢
      have exA := (ex2.trans ex3).trans ex4
      have hD4 := hD1.ex' exA
      walk_at "rd"
      refine ⟨c, d, 8, ns, rfl, hD4, by decide, fun j H5 j0 j1 kp5 hD5 => ?_⟩
      have o1 : t1 ≠ d := hD1.nd hn1
      have o2 : t2 ≠ d := (hD1.ex' ex2).nd hn2
      have o3 : m ≠ d := (hD1.ex' (ex2.trans ex3)).nd hn3
      have hm5 := kp5 _ _ o3 hm
      have ht1' := kp5 _ _ o1 (ex4 _ _ (ex3 _ _ ht1))
      have ht2' := kp5 _ _ o2 (ex4 _ _ ht2)
      have kp := (kp1.trans (Kp.of exA)).trans kp5
      have hj : j.toNat < 8 := by omega
      have fin : ∀ v ∈ ([.str (S []), .str (S lz), .str (S lv), .non, .int 7, .bl true, .ref t1, .ref t2] : List V), BadV d H5 v (-1) := by
        intro v hv
        simp only [List.mem_cons, List.not_mem_nil, or_false] at hv
        rcases hv with rfl | rfl | rfl | rfl | rfl | rfl | rfl | rfl
        · exact ⟨.inl ⟨rfl, .inr ⟨[], rfl, by decide, .inl rfl⟩⟩, fun b e => nomatch e⟩
        · exact ⟨.inl ⟨rfl, .inr ⟨_, rfl, by omega, .inr (by omega)⟩⟩, fun b e => nomatch e⟩
        · exact ⟨.inl ⟨rfl, .inr ⟨_, rfl, by omega, .inr (by omega)⟩⟩, fun b e => nomatch e⟩
        · exact ⟨.inl ⟨rfl, .inl (.inl rfl)⟩, fun b e => nomatch e⟩
        · exact ⟨.inl ⟨rfl, .inl (.inr (.inr (.inl ⟨_, rfl⟩)))⟩, fun b e => nomatch e⟩
        · exact ⟨.inl ⟨rfl, .inl (.inr (.inl ⟨_, rfl⟩))⟩, fun b e => nomatch e⟩
        · exact ⟨.inl ⟨rfl, .inl (.inr (.inr (.inr (.inr ⟨_, _, rfl, ht1'⟩))))⟩, fun b e => by cases e; exact o1⟩
        · exact ⟨.inl ⟨rfl, .inl (.inr (.inr (.inr (.inl ⟨_, _, rfl, ht2'⟩))))⟩, fun b e => by cases e; exact o2⟩
      have hml : ([.str (S []), .str (S lz), .str (S lv), .non, .int 7, .bl true, .ref t1, .ref t2] : List V).length = 8 := rfl
      generalize ([.str (S []), .str (S lz), .str (S lv), .non, .int 7, .bl true, .ref t1, .ref t2] : List V) = ml at *
      have hj2 : j.toNat < ml.length := by omega
      walk_at "rd"
      refine r_ixL (v := ml[j.toNat]) (Evl.sq_of hm5) j0 (List.getElem?_eq_getElem hj2) ?_
      walk_at "rd"
      refine ⟨small (by show 2 ≤ 1000000; decide), fun p hp => ?_⟩
      exact q _ (-1) p _ ((fin _ (List.getElem_mem _)).kp (Kp.of (Evl.Ex.new hp))) (kp.trans (Kp.of (Evl.Ex.new hp))) (hD5.ex' (Evl.Ex.new hp)) (hD5.nd hp) upd_same
    · clear h3
      walk_at "rd"
      refine ⟨c, d, _, ns, rfl, hD1, by omega, fun i H2 i0 i1 kp2 hD2 => ?_⟩
      walk_at "rd"
      refine ⟨c, d, _, ns, rfl, hD2, by omega, fun i2 H3 i20 i21 kp3 hD3 => ?_⟩
      walk_at "rd"
      refine ⟨c, d, 8, ns, rfl, hD3, by decide, fun k1 H4 k10 k11 kp4 hD4 => ?_⟩
      obtain ⟨x, hx, nx⟩ := bad_sign k10 k11
      obtain ⟨a, rfl⟩ : ∃ a : Nat, i = a := ⟨i.toNat, by omega⟩
      obtain ⟨b2, rfl⟩ : ∃ a : Nat, i2 = a := ⟨i2.toNat, by omega⟩
      walk_at "rd"
      refine r_ixSS (small (by decide)) k10 hx ?_
      have hb : a + b2 < l.length := by omega
      rw [show ((a : Int) + (b2 : Int)) = ((a + b2 : Nat) : Int) by omega, cut_to (by omega), Int.toNat_natCast]
      generalize eb : a + b2 = b at hb ⊢
      have lt : (l.take b).length = b := by rw [List.length_take]; omega
      refine r_catS (small (by rw [lt]; show b + 1 ≤ 1000000; omega)) ?_
      walk_at "rd"
      rw [show ((b : Int) + 1) = ((b + 1 : Nat) : Int) by omega, cut_from (by omega), Int.toNat_natCast]
      have l3 : (l.take b ++ [x] ++ l.drop (b + 1)).length = l.length := put_len hb
      refine r_catS (small (by rw [List.length_append] at l3; omega)) ?_
      have mlt : ∀ j, j < b → (l.take b ++ [x] ++ l.drop (b + 1))[j]? = l[j]? := fun j hj => put_lt hb hj
      generalize l.take b ++ [x] ++ l.drop (b + 1) = m at l3 mlt ⊢
      walk_at "rd"
      refine ⟨c, d, 8, ns, rfl, hD4, by decide, fun k2 H5 k20 k21 kp5 hD5 => ?_⟩
      obtain ⟨y, hy, ny⟩ := bad_sign k20 k21
      walk_at "rd"
      refine r_ixSS (small (by decide)) k20 hy ?_
      rw [cut_to (by omega), Int.toNat_natCast]
      have ha : a < m.length := by omega
      have lt2 : (m.take a).length = a := by rw [List.length_take]; omega
      refine r_catS (small (by rw [lt2]; show a + 1 ≤ 1000000; omega)) ?_
      walk_at "rd"
      rw [show ((a : Int) + 1) = ((a + 1 : Nat) : Int) by omega, cut_from (by omega), Int.toNat_natCast]
      have l4 : (m.take a ++ [y] ++ m.drop (a + 1)).length = m.length := put_len ha
      refine r_catS (small (by rw [List.length_append] at l4; omega)) ?_
      have hf : FirstBad (m.take a ++ [y] ++ m.drop (a + 1)) a := ⟨y, put_at ha, ny, fun j c hj hc => by
        rw [put_lt ha hj, mlt j (by omega)] at hc
        exact hl.sg c (List.mem_of_getElem? hc)⟩
      generalize m.take a ++ [y] ++ m.drop (a + 1) = m2 at l4 hf ⊢
      walk_at "rd"
      refine ⟨small (by show 2 ≤ 1000000; decide), fun p hp => ?_⟩
      have kp := (((kp1.trans kp2).trans kp3).trans kp4).trans kp5
      exact q _ (a : Int) p _ ⟨.inr ⟨m2, a, rfl, by omega, by omega, hf, rfl⟩, fun b e => nomatch e⟩ (kp.trans (Kp.of (Evl.Ex.new hp))) (hD5.ex' (Evl.Ex.new hp)) (hD5.nd hp) upd_same
end
end Fk

set_option Elab.async false
set_option linter.all false
set_option maxRecDepth 100000
set_option maxHeartbeats 4000000
namespace Fk
open PySem PySem.Spec PyProof.Rows L2 Fg Fm
open Rt hiding rep_len
local macro_rules | `(tactic| walk_at "rd1") => `(tactic| first
  | with_reducible refine r_seq ?_
  | with_reducible refine r_asg ?_
  | with_reducible refine r_gname ?_
  | with_reducible refine r_gsub ?_
  | with_reducible refine r_ret ?_
  | with_reducible refine r_retN ?_
  | with_reducible refine r_next ?_
  | with_reducible refine r_drop ?_
  | with_reducible refine r_ifS ?_
  | with_reducible refine r_if ?_
  | with_reducible refine r_par ?_
  | with_reducible refine r_pair ?_
  | with_reducible refine r_test ?_
  | with_reducible refine r_tB ?_
  | with_reducible refine r_not ?_
  | with_reducible refine r_and ?_
  | with_reducible refine r_or ?_
  | with_reducible refine r_andV ?_
  | with_reducible refine r_orV ?_
  | with_reducible refine r_notV ?_
  | with_reducible refine r_nil ?_
  | with_reducible refine r_cons ?_
  | with_reducible refine r_call ?_
  | with_reducible refine r_callS ?_
  | with_reducible refine r_cb ?_
  | with_reducible refine r_then ?_
  | with_reducible refine r_tup ?_
  | with_reducible refine r_lst ?_
  | with_reducible refine r_sl ?_
  | with_reducible refine r_nopart ?_
  | with_reducible refine r_part ?_
  | with_reducible refine r_lcR1 ?_
  | with_reducible refine r_lcR2 ?_
  | with_reducible refine r_lcL ?_
  | with_reducible refine r_lcT ?_
  | with_reducible refine r_forR1 ?_
  | with_reducible refine r_forR2 ?_
  | with_reducible refine r_forL ?_
  | with_reducible refine r_forT ?_
  | with_reducible refine r_forE ?_
  | with_reducible refine r_strE ?_
  | ((with_reducible refine r_rng1 ?hc ?_); (case hc => omega))
  | ((with_reducible refine r_rng2 ?hc ?_); (case hc => omega))
  | ((with_reducible refine' r_refL ?hc ?_); (case hc => first | assumption | exact Evl.sq_of (by assumption)))
  | ((with_reducible refine' r_refT ?hc ?_); (case hc => first | assumption | exact Evl.st_of (by assumption)))
  | with_reducible refine r_op ?_
  | with_reducible refine r_un ?_
  | with_reducible refine r_chain ?_
  | ((with_reducible refine' r_var ?hv ?_); (case hv => exact rfl))
  | with_reducible refine r_cS ?_
  | with_reducible refine r_cs ?_
  | with_reducible refine r_c ?_
  | with_reducible refine r_yes ?_
  | with_reducible refine r_bm ?_
  | with_reducible refine r_bl ?_
  | with_reducible refine r_in ?_
  | with_reducible refine r_ty ?_
  | with_reducible refine r_I0 ?_
  | ((with_reducible refine r_I ?hc ?_); (case hc => first | assumption | (show (0 : Int) < _; decide) | exact Or.inr ⟨by decide, by decide⟩ | exact Or.inr ⟨by omega, by omega⟩ | exact Or.inl ⟨by decide, by decide⟩ | exact (show CDivW _ _ from ⟨by decide, by decide +kernel⟩) | exact (show CPowW _ _ from ⟨by decide, by decide +kernel⟩) | (show (0 : Int) < _; omega)))
  | with_reducible refine r_U ?_
  | with_reducible refine r_eqI ?_
  | with_reducible refine r_neI ?_
  | with_reducible refine r_eqS ?_
  | with_reducible refine r_neS ?_
  | with_reducible refine r_eqB ?_
  | with_reducible refine r_neB ?_
  | with_reducible refine r_niS ?_
  | with_reducible refine r_inSS ?_
  | ((with_reducible refine r_slSS ?hc ?_); (case hc => first | exact small (by omega) | exact small (by simp; omega)))
  | ((with_reducible refine r_lenS ?hc ?_); (case hc => first | exact small (by omega) | exact small (by simp; omega)))
  | ((with_reducible refine' r_lenL ?hc ?_); (case hc => first | assumption | exact Evl.sq_of (by assumption)))
  | ((with_reducible refine' r_lenT ?hc ?_); (case hc => first | assumption | exact Evl.st_of (by assumption)))
  | ((with_reducible refine' r_ixL ?h1 ?h2 ?h3 ?_); (case h1 => first | assumption | exact Evl.sq_of (by assumption) | exact Evl.sq_of upd_same); (case h2 => first | decide | omega); (case h3 => first | exact rfl | assumption))
  | ((with_reducible refine' r_ixT ?h1 ?h2 ?h3 ?_); (case h1 => first | assumption | exact Evl.st_of (by assumption)); (case h2 => first | decide | omega); (case h3 => first | exact rfl | assumption))
  | with_reducible refine r_T ?_
  | with_reducible refine r_notNn ?_
  | with_reducible refine r_notN_int ?_
  | with_reducible refine r_notN_str ?_
  | with_reducible refine r_notN_ref ?_
  | with_reducible refine r_isNn ?_
  | with_reducible refine r_isN_int ?_
  | with_reducible refine r_isN_str ?_
  | with_reducible refine r_isN_ref ?_
  | ((with_reducible refine' r_isi ?ht ?hk ?_); (case ht => first | exact .base (.int _) | exact .base (.bl _) | exact .base (.str _) | exact .base .non | exact .base (.lst (by assumption)) | exact .base (.tup (by assumption))); (case hk => first | exact kb_int_int | exact kb_int_bool | exact kb_int_str | exact kb_int_list | exact kb_int_tuple | exact kb_bool_int | exact kb_bool_bool | exact kb_bool_str | exact kb_bool_list | exact kb_bool_tuple | exact kb_str_int | exact kb_str_bool | exact kb_str_str | exact kb_str_list | exact kb_str_tuple | exact kb_NoneType_int | exact kb_NoneType_bool | exact kb_NoneType_str | exact kb_NoneType_list | exact kb_NoneType_tuple | exact kb_list_int | exact kb_list_bool | exact kb_list_str | exact kb_list_list | exact kb_list_tuple | exact kb_tuple_int | exact kb_tuple_bool | exact kb_tuple_str | exact kb_tuple_list | exact kb_tuple_tuple))
  | with_reducible refine r_F ?_
  | with_reducible refine r_nT ?_
  | with_reducible refine r_nF ?_
  | with_reducible refine r_mko ?_
  | with_reducible refine r_xf ?_
  | ((with_reducible refine' r_sum ?hc ?_); (case hc => first | assumption | exact Evl.sq_of (by assumption)))
  | ((with_reducible refine' r_setL ?h1 ?h2 ?h3 ?_); (case h1 => first | assumption | exact upd_same); (case h2 => first | decide | omega); (case h3 => first | (show _ < _; decide) | (simp; done)))
  | with_reducible refine r_int ?_
  | with_reducible refine r_abs ?_)
local macro_rules | `(tactic| walk_at "rd") => `(tactic| repeat (walk_at "rd1"))

section
variable {P : Program} {w : World} {K : PySem.W.Frag} {mg : Str → Option Value} {base : Heap}
def spLaw (K : PySem.W.Frag) : Sp := fun vs H Q _ => ∃ (a : Addr) (ns : List Int), vs = [.ref a] ∧ SqL K H a (ns.map V.int) ∧ ns.length ≤ 63 ∧ ∀ H', Q (.bl true) H'
/-- a list of two rounds in the heap -/
def TwoL (d : Addr) (H : Hp) (y : V) : Prop := ∃ (t : Addr) (a b : List Nat), y = .ref t ∧ t ≠ d ∧ H t = some (.lst [.str (S a), .str (S b)]) ∧ Rnd a ∧ Rnd b
theorem TwoL.kp {d : Addr} {H H' : Hp} {y : V} (h : TwoL d H y) (k : Kp d H H') : TwoL d H' y := by
  obtain ⟨t, a, b, h1, h2, h3, h4⟩ := h
  exact ⟨t, a, b, h1, h2, k _ _ h2 h3, h4⟩
theorem wish_told {C CT : Addr} {n : Int} {H : Hp} {Q : VK} (q : ∀ t H', Ex H H' → H' t = some (.tup [.str (S wRound), .int n]) → Q (.ref t) H') : Wish C "number" (.int n) H (eTold C CT Q) :=
  fun d H' hd ex hdd => .inl ⟨rfl, d, _, rfl, hdd, fun t H2 ex2 ht => q t H2 (ex.trans ex2) ht⟩
theorem bad_first {C CT : Addr} {n k : Int} {x y : V} {H : Hp} {Q : VK} (hk : k = 0 ∨ k = 1 ∨ k = 2) (hb : BadRd H x n) (q : ∀ t H', Ex H H' → H' t = some (.tup [.str (S wRound), .int n]) → Q (.ref t) H') : spCall C CT [.int k, x, y] H (fun v H1 => RetT wTold v H1 Q) (eTold C CT Q) := by
  rcases hk with rfl | rfl | rfl
  · exact ⟨0, x, y, rfl, .inl ⟨rfl, _, _, rfl, .inr ⟨n, hb, wish_told q⟩⟩⟩
  · exact ⟨1, x, y, rfl, .inr (.inl ⟨rfl, _, _, rfl, .inr ⟨n, hb, wish_told q⟩⟩)⟩
  · exact ⟨2, x, y, rfl, .inr (.inr (.inl ⟨rfl, _, _, rfl, .inr ⟨n, hb, wish_told q⟩⟩))⟩
theorem bad_second {C CT : Addr} {n k : Int} {a : List Nat} {y : V} {H : Hp} {Q : VK} (hk : k = 0 ∨ k = 1 ∨ k = 2) (ha : Rnd a) (hb : BadRd H y n) (q : ∀ t H', Ex H H' → H' t = some (.tup [.str (S wRound), .int n]) → Q (.ref t) H') : spCall C CT [.int k, .str (S a), y] H (fun v H1 => RetT wTold v H1 Q) (eTold C CT Q) := by
  rcases hk with rfl | rfl | rfl
  · exact ⟨0, _, y, rfl, .inl ⟨rfl, _, _, rfl, .inl ⟨a, rfl, ha, .inr ⟨n, hb, wish_told q⟩⟩⟩⟩
  · exact ⟨1, _, y, rfl, .inr (.inl ⟨rfl, _, _, rfl, .inl ⟨a, rfl, ha, .inr ⟨n, hb, wish_told q⟩⟩⟩)⟩
  · exact ⟨2, _, y, rfl, .inr (.inr (.inl ⟨rfl, _, _, rfl, .inl ⟨a, rfl, ha, .inr ⟨n, hb, wish_told q⟩⟩⟩))⟩
abbrev s_law : Stmt := topS 56
abbrev N_law : List Str := ["_law_script", "_law_draw_here", "_law_rows", "_law_others", "_law_pair", "_law_bad", "_law_dull", "_law_kind"]
theorem sc_law : FnScope ["_law_script", "_law_draw_here", "_law_rows", "_law_others", "_law_pair", "_law_bad", "_law_dull", "_law_kind"] ["_law_script"] (defScope s_law) := ⟨rfl, rfl, rfl, by decide +kernel, rfl, by decide +kernel, by decide +kernel⟩
theorem ok_law (T : Bi mg) {f : Addr} {fd : FuncData} (F : Fun K "law" "law" s_law f fd) {A_BadRound A_TooLong : Addr} (C_l_draw : Can P w K mg base L2.CX0 1 "_law_draw" ["_law_script"] (spDraw K)) (C_l_two_rounds : Can P w K mg base L2.CX0 5 "_law_two_rounds" ["_law_draw_here"] spRounds) (C_l_pair_right : Can P w K mg base (L2.CX P w) 28 "_law_pair_right" ["_law_draw_here", "_law_first", "_law_second"] spPairRight) (C_l_bad_round : Can P w K mg base L2.CX0 3 "_law_bad_round" ["_law_draw_here", "_law_row"] spBadRound) (C_l_equal : Can P w K mg base L2.CX0 2 "_law_equal" ["_law_told_here", "_law_due"] spEqual) (C_l_told : Can P w K mg base L2.CX0 27 "_law_told" ["_law_kind", "_law_first", "_law_second"] (spTold A_BadRound A_TooLong)) (C_l_pick : Can P w K mg base L2.CX0 2 "_law_pick" ["_law_draw_here", "_law_many"] spPick) : FnOk P w K mg base (L2.CX P w) 29 f fd ["_law_script"] (spLaw K) := by
  refine F.okX sc_law (fun vs H Q E h => ?_) (fun cdv A outer s H vs Q E hr h => ⟨_, (pss_cons (ps_set (i := 1) sc_law.nd rfl (by first | exact Or.inl rfl | exact Or.inr rfl) (pe_can C_l_draw hr (by decide) rfl (pa_cons (pv 0) pa_nil)))
  (pss_cons (ps_set (i := 2) sc_law.nd rfl (by first | exact Or.inl rfl | exact Or.inr rfl) (pe_can C_l_two_rounds hr (by decide) rfl (pa_cons (pv 1) pa_nil)))
  (pss_cons (ps_set (i := 3) sc_law.nd rfl (by first | exact Or.inl rfl | exact Or.inr rfl) (pe_can C_l_two_rounds hr (by decide) rfl (pa_cons (pv 1) pa_nil)))
  (pss_cons (ps_for PassesOwn.leaving rfl (pi_list (pe_lst (pa_cons (pv 2) (pa_cons (pv 3) (pa_cons (pe_lst (pa_cons (pe_ix ix_list (pv 2) pe_int (fun _ _ => rfl)) (pa_cons (pe_ix ix_list (pv 3) pe_int (fun _ _ => rfl)) pa_nil))) (pa_cons (pe_lst (pa_cons (pe_ix ix_list (pv 2) pe_int (fun _ _ => rfl)) (pa_cons (pe_ix ix_list (pv 2) pe_int (fun _ _ => rfl)) pa_nil))) (pa_cons (pe_lst (pa_cons (pe_ix ix_list (pv 3) pe_int (fun _ _ => rfl)) (pa_cons (pe_ix ix_list (pv 3) pe_int (fun _ _ => rfl)) pa_nil))) pa_nil))))))) (pg_name (i := 4) sc_law.nd rfl (by first | exact Or.inl rfl | exact Or.inr rfl))
    (pss_one (ps_if (pt_not (pt_val (pe_canX C_l_pair_right hr (by decide) rfl (passes_call (takes_of rfl rfl rfl rfl) (fun _ _ _ _ h => h)) (pa_cons (pv 1) (pa_cons (pe_ix ix_list (pv 4) pe_int (fun _ _ => rfl)) (pa_cons (pe_ix ix_list (pv 4) pe_int (fun _ _ => rfl)) pa_nil)))))) (pss_one (ps_ret pe_bl)) pss_nil)))
  (pss_cons (ps_set (i := 5) sc_law.nd rfl (by first | exact Or.inl rfl | exact Or.inr rfl) (pe_can C_l_bad_round hr (by decide) rfl (pa_cons (pv 1) (pa_cons (pe_ix ix_list (pv 2) pe_int (fun _ _ => rfl)) pa_nil))))
  (pss_cons (ps_set (i := 6) sc_law.nd rfl (by first | exact Or.inl rfl | exact Or.inr rfl) (pe_can C_l_bad_round hr (by decide) rfl (pa_cons (pv 1) (pa_cons (pe_ix ix_list (pv 2) pe_int (fun _ _ => rfl)) pa_nil))))
  (pss_cons (ps_for PassesOwn.leaving rfl (pi_range1 rfl T.b_range (pa_cons pe_int pa_nil)) (pg_name (i := 7) sc_law.nd rfl (by first | exact Or.inl rfl | exact Or.inr rfl))
    (pss_cons (ps_if (pt_not (pt_val (pe_can C_l_equal hr (by decide) rfl (pa_cons (pe_can C_l_told hr (by decide) rfl (pa_cons (pv 7) (pa_cons (pe_ix ix_tup (pv 5) pe_int (fun _ _ => rfl)) (pa_cons (pe_ix ix_list (pe_lst (pa_cons (pe_ix ix_list (pv 2) pe_int (fun _ _ => rfl)) (pa_cons (pe_ix ix_tup (pv 6) pe_int (fun _ _ => rfl)) pa_nil))) (pe_can C_l_pick hr (by decide) rfl (pa_cons (pv 1) (pa_cons pe_int pa_nil))) (fun _ _ => rfl)) pa_nil)))) (pa_cons (pe_tup (pa_cons (pe_strL [114, 111, 117, 110, 100] (by decide +kernel)) (pa_cons (pe_ix ix_tup (pv 5) pe_int (fun _ _ => rfl)) pa_nil))) pa_nil))))) (pss_one (ps_ret pe_bl)) pss_nil)
  (pss_one (ps_if (pt_not (pt_val (pe_can C_l_equal hr (by decide) rfl (pa_cons (pe_can C_l_told hr (by decide) rfl (pa_cons (pv 7) (pa_cons (pe_ix ix_list (pv 2) pe_int (fun _ _ => rfl)) (pa_cons (pe_ix ix_tup (pv 6) pe_int (fun _ _ => rfl)) pa_nil)))) (pa_cons (pe_tup (pa_cons (pe_strL [114, 111, 117, 110, 100] (by decide +kernel)) (pa_cons (pe_ix ix_tup (pv 6) pe_int (fun _ _ => rfl)) pa_nil))) pa_nil))))) (pss_one (ps_ret pe_bl)) pss_nil))))
  (pss_one (ps_ret pe_bl))))))))), ?_⟩)
  · obtain ⟨_, _, rfl, _⟩ := h
    rfl
  · obtain ⟨a0, ns, rfl, hS, hn, q⟩ := h
    walk_at "rd"
    refine ⟨a0, ns, rfl, hS, hn, fun c d H1 hc hd ex0 hD1 => ?_⟩
    walk_at "rd"
    refine ⟨c, d, ns, rfl, hD1, fun a b p H2 ha hb kp2 hD2 pd hp => ?_⟩
    walk_at "rd"
    refine ⟨c, d, ns, rfl, hD2, fun a2 b2 r H3 ha2 hb2 kp3 hD rd hr2 => ?_⟩
    have hp3 := kp3 _ _ pd hp
    clear hp kp2 kp3 hD1 hD2 ex0
    walk_at "rd"
    refine ⟨small (by show 2 ≤ 1000000; decide), fun t1 hnt1 => ?_⟩
    have ext1 := Evl.Ex.new (o := .lst [.str (S a), .str (S b2)]) hnt1
    have gt1 : (upd H3 t1 (.lst [.str (S a), .str (S b2)])) t1 = some (.lst [.str (S a), .str (S b2)]) := upd_same
    have ot1 : t1 ≠ d := hD.nd hnt1
    generalize upd H3 t1 (.lst [.str (S a), .str (S b2)]) = G1 at ext1 gt1 ⊢
    replace hD := hD.ex' ext1
    replace hp3 := ext1 _ _ hp3
    replace hr2 := ext1 _ _ hr2
    walk_at "rd"
    refine ⟨small (by show 2 ≤ 1000000; decide), fun t2 hnt2 => ?_⟩
    have ext2 := Evl.Ex.new (o := .lst [.str (S b), .str (S a)]) hnt2
    have gt2 : (upd G1 t2 (.lst [.str (S b), .str (S a)])) t2 = some (.lst [.str (S b), .str (S a)]) := upd_same
    have ot2 : t2 ≠ d := hD.nd hnt2
    generalize upd G1 t2 (.lst [.str (S b), .str (S a)]) = G2 at ext2 gt2 ⊢
    replace hD := hD.ex' ext2
    replace hp3 := ext2 _ _ hp3
    replace hr2 := ext2 _ _ hr2
    replace gt1 := ext2 _ _ gt1
    walk_at "rd"
    refine ⟨small (by show 2 ≤ 1000000; decide), fun t3 hnt3 => ?_⟩
    have ext3 := Evl.Ex.new (o := .lst [.str (S a2), .str (S a2)]) hnt3
    have gt3 : (upd G2 t3 (.lst [.str (S a2), .str (S a2)])) t3 = some (.lst [.str (S a2), .str (S a2)]) := upd_same
    have ot3 : t3 ≠ d := hD.nd hnt3
    generalize upd G2 t3 (.lst [.str (S a2), .str (S a2)]) = G3 at ext3 gt3 ⊢
    replace hD := hD.ex' ext3
    replace hp3 := ext3 _ _ hp3
    replace hr2 := ext3 _ _ hr2
    replace gt1 := ext3 _ _ gt1
    replace gt2 := ext3 _ _ gt2
    walk_at "rd"
    refine ⟨small (by show 5 ≤ 1000000; decide), fun m hnm => ?_⟩
    have exm := Evl.Ex.new (o := .lst [.ref p, .ref r, .ref t1, .ref t2, .ref t3]) hnm
    have gm : (upd G3 m (.lst [.ref p, .ref r, .ref t1, .ref t2, .ref t3])) m = some (.lst [.ref p, .ref r, .ref t1, .ref t2, .ref t3]) := upd_same
    have om : m ≠ d := hD.nd hnm
    generalize upd G3 m (.lst [.ref p, .ref r, .ref t1, .ref t2, .ref t3]) = G4 at exm gm ⊢
    replace hD := hD.ex' exm
    have all : ∀ y ∈ ([.ref p, .ref r, .ref t1, .ref t2, .ref t3] : List V), TwoL d G4 y := by
      intro y hy
      simp only [List.mem_cons, List.not_mem_nil, or_false] at hy
      rcases hy with rfl | rfl | rfl | rfl | rfl
      · exact ⟨p, a, b, rfl, pd, exm _ _ hp3, ha, hb⟩
      · exact ⟨r, a2, b2, rfl, rd, exm _ _ hr2, ha2, hb2⟩
      · exact ⟨t1, a, b2, rfl, ot1, exm _ _ gt1, ha, hb2⟩
      · exact ⟨t2, b, a, rfl, ot2, exm _ _ gt2, hb, ha⟩
      · exact ⟨t3, a2, a2, rfl, ot3, exm _ _ gt3, ha2, ha2⟩
    have hp4 := exm _ _ hp3
    clear hp3 hr2 gt1 gt2 gt3
    generalize ([.ref p, .ref r, .ref t1, .ref t2, .ref t3] : List V) = ml at all gm
    walk_at "rd"
    refine forL (xs := ml) (fun _ σ' H' => ∃ o, σ' = [some (.ref a0), some (.ref d), some (.ref p), some (.ref r), o, none, none, none] ∧ Kp d G4 H' ∧ Dr ns c d H') ⟨_, rfl, Kp.refl _ _, hD⟩ (fun i σ' H' hi hJ => ?_) (fun i y σ' H5 hy hJ => ?_) (fun σ' H5 hJ => ?_)
    · obtain ⟨o, rfl, kp, hD5⟩ := hJ
      exact Evl.sq_of (kp _ _ om gm)
    · obtain ⟨o, rfl, kp, hD5⟩ := hJ
      obtain ⟨t, x, z, rfl, ot, ht, hx, hz⟩ := (all y (List.mem_of_getElem? hy)).kp kp
      walk_at "rd"
      refine ⟨c, d, x, z, ns, rfl, hD5, hx, hz, fun H6 kp6 hD6 => ?_⟩
      walk_at "rd"
      exact ⟨_, rfl, kp.trans kp6, hD6⟩
    obtain ⟨o, rfl, kp, hD5⟩ := hJ
    have hp5 := kp _ _ pd hp4
    clear all gm hp4
    walk_at "rd"
    refine ⟨c, d, a, ns, rfl, hD5, ha, fun v1 n1 p1 H6 bv1 kp6 hD6 o1 hp1 => ?_⟩
    have hp6 := kp6 _ _ pd hp5
    walk_at "rd"
    refine ⟨c, d, b, ns, rfl, hD6, hb, fun v2 n2 p2 H7 bv2 kp7 hD7 o2 hp2 => ?_⟩
    have hp7 := kp7 _ _ pd hp6
    have hp17 := kp7 _ _ o1 hp1
    replace bv1 := bv1.kp kp7
    clear hp1 hp6 hp5 kp kp6 kp7
    walk_at "rd"
    refine forR (fun i σ' H' => ∃ o7, σ' = [some (.ref a0), some (.ref d), some (.ref p), some (.ref r), o, some (.ref p1), some (.ref p2), o7] ∧ Kp d H7 H' ∧ Dr ns c d H') ⟨_, rfl, Kp.refl _ _, hD7⟩ (fun i σ' H8 hi hJ => ?_) (fun σ' H8 hJ => ?_)
    · obtain ⟨o7, rfl, kp, hD8⟩ := hJ
      have hk : (0 : Int) + (i : Int) = 0 ∨ (0 : Int) + (i : Int) = 1 ∨ (0 : Int) + (i : Int) = 2 := by
        have hi3 : i < 3 := hi
        omega
      have hp8 := kp _ _ pd hp7
      have hp18 := kp _ _ o1 hp17
      have hp28 := kp _ _ o2 hp2
      have bw1 := bv1.kp kp
      have bw2 := bv2.kp kp
      walk_at "rd"
      refine ⟨small (by show 2 ≤ 1000000; decide), fun L hL => ?_⟩
      have exL := Evl.Ex.new (o := .lst [.str (S b), v2]) hL
      have gL : (upd H8 L (.lst [.str (S b), v2])) L = some (.lst [.str (S b), v2]) := upd_same
      have oL : L ≠ d := hD8.nd hL
      generalize upd H8 L (.lst [.str (S b), v2]) = H9 at exL gL ⊢
      have hD9 := hD8.ex' exL
      walk_at "rd"
      refine ⟨c, d, 2, ns, rfl, hD9, by decide, fun k H10 k0 k1 kp10 hD10 => ?_⟩
      have kpA := (Kp.of (d := d) exL).trans kp10
      have gL10 := kp10 _ _ oL gL
      have hj : k.toNat < ([.str (S b), v2] : List V).length := by show _ < 2; omega
      have hy : ([.str (S b), v2] : List V)[k.toNat]? = some (([.str (S b), v2] : List V)[k.toNat]) := List.getElem?_eq_getElem hj
      generalize ([.str (S b), v2] : List V)[k.toNat] = y at hy
      replace hp8 := kpA _ _ pd hp8
      replace hp18 := kpA _ _ o1 hp18
      replace hp28 := kpA _ _ o2 hp28
      replace bw1 := bw1.kp kpA
      replace bw2 := bw2.kp kpA
      replace kp := kp.trans kpA
      clear kpA kp10 hD9 hD8 exL gL
      walk_at "rd"
      refine ⟨rfl, bad_first hk bw1.bad fun t H11 ex11 ht => ?_⟩
      walk_at "rd"
      have hp1B := ex11 _ _ hp18
      walk_at "rd"
      refine ⟨small (by show 2 ≤ 1000000; decide), fun s hs => ?_⟩
      have exS := Evl.Ex.new (o := .tup [V.str (S [114, 111, 117, 110, 100]), .int n1]) hs
      have gS : (upd H11 s (.tup [V.str (S [114, 111, 117, 110, 100]), .int n1])) s = some (.tup [V.str (S [114, 111, 117, 110, 100]), .int n1]) := upd_same
      generalize upd H11 s (.tup [V.str (S [114, 111, 117, 110, 100]), .int n1]) = H12 at exS gS ⊢
      walk_at "rd"
      refine ⟨t, s, wRound, .int n1, rfl, exS _ _ ht, gS, .inr (.inr (.inl ⟨_, rfl⟩)), ?_⟩
      have exB := ex11.trans exS
      have hD12 := hD10.ex' exB
      replace hp8 := exB _ _ hp8
      replace hp28 := exB _ _ hp28
      replace bw2 := bw2.kp (Kp.of exB)
      replace kp := kp.trans (Kp.of exB)
      walk_at "rd"
      refine ⟨rfl, bad_second hk ha bw2.bad fun t H13 ex13 ht => ?_⟩
      have hp2C := ex13 _ _ hp28
      walk_at "rd"
      refine ⟨small (by show 2 ≤ 1000000; decide), fun s hs => ?_⟩
      have exT := Evl.Ex.new (o := .tup [V.str (S [114, 111, 117, 110, 100]), .int n2]) hs
      have gT : (upd H13 s (.tup [V.str (S [114, 111, 117, 110, 100]), .int n2])) s = some (.tup [V.str (S [114, 111, 117, 110, 100]), .int n2]) := upd_same
      generalize upd H13 s (.tup [V.str (S [114, 111, 117, 110, 100]), .int n2]) = H14 at exT gT ⊢
      walk_at "rd"
      refine ⟨t, s, wRound, .int n2, rfl, exT _ _ ht, gT, .inr (.inr (.inl ⟨_, rfl⟩)), ?_⟩
      walk_at "rd"
      exact ⟨_, rfl, kp.trans (Kp.of (ex13.trans exT)), hD12.ex' (ex13.trans exT)⟩
    · obtain ⟨o7, rfl, kp, hD8⟩ := hJ
      walk_at "rd"
      exact q _
end
end Fk

set_option Elab.async false
set_option linter.all false
set_option maxRecDepth 100000
set_option maxHeartbeats 4000000
namespace Fk
open PySem PySem.Spec PyProof.Rows L2 Fg Fm
open Rt hiding rep_len
section
variable {P : Program} {w : World} {K : PySem.W.Frag} {mg : Str → Option Value} {base : Heap}
theorem sc_init_BadRound : FnScope ["self", "number"] ["self", "number"] (defScope (inClass (topS 3) 0)) := ⟨rfl, rfl, rfl, by decide +kernel, rfl, by decide +kernel, by decide +kernel⟩
theorem ok_init_BadRound {C fI : Addr} {fd : FuncData} (o : OexC K C) (n : PySem.W.findIn K (.ref C) "number" = some none) (F : Fun K "__init__" "BadRound.__init__" (inClass (topS 3) 0) fI fd) : FnOk P w K mg base L2.CX0 1 fI fd ["self", "number"] (spInit C "number") := by
  refine F.ok sc_init_BadRound (fun vs H Q E h => ?_) (fun cdv A outer s H vs Q E hr h => ⟨_, pss_one (ps_ost (pv 0) (pv 1)), ?_⟩)
  · obtain ⟨_, _, rfl, _⟩ := h
    rfl
  · obtain ⟨a, v, rfl, ha, q⟩ := h
    exact r_ost rfl rfl o n ha q
theorem sc_init_BadBeats : FnScope ["self", "beats"] ["self", "beats"] (defScope (inClass (topS 4) 0)) := ⟨rfl, rfl, rfl, by decide +kernel, rfl, by decide +kernel, by decide +kernel⟩
theorem ok_init_BadBeats {C fI : Addr} {fd : FuncData} (o : OexC K C) (n : PySem.W.findIn K (.ref C) "beats" = some none) (F : Fun K "__init__" "BadBeats.__init__" (inClass (topS 4) 0) fI fd) : FnOk P w K mg base L2.CX0 1 fI fd ["self", "beats"] (spInit C "beats") := by
  refine F.ok sc_init_BadBeats (fun vs H Q E h => ?_) (fun cdv A outer s H vs Q E hr h => ⟨_, pss_one (ps_ost (pv 0) (pv 1)), ?_⟩)
  · obtain ⟨_, _, rfl, _⟩ := h
    rfl
  · obtain ⟨a, v, rfl, ha, q⟩ := h
    exact r_ost rfl rfl o n ha q
theorem sc_init_BadText : FnScope ["self", "at"] ["self", "at"] (defScope (inClass (topS 5) 0)) := ⟨rfl, rfl, rfl, by decide +kernel, rfl, by decide +kernel, by decide +kernel⟩
theorem ok_init_BadText {C fI : Addr} {fd : FuncData} (o : OexC K C) (n : PySem.W.findIn K (.ref C) "at" = some none) (F : Fun K "__init__" "BadText.__init__" (inClass (topS 5) 0) fI fd) : FnOk P w K mg base L2.CX0 1 fI fd ["self", "at"] (spInit C "at") := by
  refine F.ok sc_init_BadText (fun vs H Q E h => ?_) (fun cdv A outer s H vs Q E hr h => ⟨_, pss_one (ps_ost (pv 0) (pv 1)), ?_⟩)
  · obtain ⟨_, _, rfl, _⟩ := h
    rfl
  · obtain ⟨a, v, rfl, ha, q⟩ := h
    exact r_ost rfl rfl o n ha q
theorem sc_init_TooLong : FnScope ["self", "number"] ["self", "number"] (defScope (inClass (topS 6) 0)) := ⟨rfl, rfl, rfl, by decide +kernel, rfl, by decide +kernel, by decide +kernel⟩
theorem ok_init_TooLong {C fI : Addr} {fd : FuncData} (o : OexC K C) (n : PySem.W.findIn K (.ref C) "number" = some none) (F : Fun K "__init__" "TooLong.__init__" (inClass (topS 6) 0) fI fd) : FnOk P w K mg base L2.CX0 1 fI fd ["self", "number"] (spInit C "number") := by
  refine F.ok sc_init_TooLong (fun vs H Q E h => ?_) (fun cdv A outer s H vs Q E hr h => ⟨_, pss_one (ps_ost (pv 0) (pv 1)), ?_⟩)
  · obtain ⟨_, _, rfl, _⟩ := h
    rfl
  · obtain ⟨a, v, rfl, ha, q⟩ := h
    exact r_ost rfl rfl o n ha q
theorem rel_lit {l : List Nat} {s : String} {t : Tok} (h : S l = Str.ofString s) : RelV (.str (S l)) (.str (Str.ofString s) t) := ⟨t, by rw [h]⟩
theorem two_do {R : Prop} {q1 q2 f1 f2 : Str} {st1 st2 : Stmt} {p1 p2 : List Str} {C CB G : Addr} (X1 : ErrC K "BadRound" q1 f1 st1 p1 C) (X2 : ErrC K "TooLong" q2 f2 st2 p2 CB) (gG : mg "GlimError" = some (.ref G))
    (h1 : PySem.W.subIn K (.ref G) (.type "BaseException") = some true) (h2 : PySem.W.isClsIn K G = true) (h3 : PySem.W.typeIn K (.ref G) = some (.type "type")) (h4 : PySem.W.subIn K (.ref C) (.ref G) = some true) (h5 : PySem.W.subIn K (.ref CB) (.ref G) = some true)
    (k11 : PySem.W.kitOne K (.ref C) (.ref C) = some true) (k12 : PySem.W.kitOne K (.ref C) (.ref CB) = some false) (k1v : PySem.W.kitOne K (.ref C) (.type "ValueError") = some true)
    (k21 : PySem.W.kitOne K (.ref CB) (.ref C) = some false) (k22 : PySem.W.kitOne K (.ref CB) (.ref CB) = some true) (k2v : PySem.W.kitOne K (.ref CB) (.type "ValueError") = some true) (n : Two K C CB G → R) : R :=
  n ⟨exm_mk h1 h2 h3 h4, exm_mk h1 h2 h3 h5, k11, k12, k1v, k21, k22, k2v⟩
theorem no_air {H : Hp} {s : Shared} {e : Value} {s' : Shared} (h : L2.CX P w [] H s (fun _ _ _ => False) e s') : False := by
  obtain ⟨_, _, _, _, _, _, _, _, _, _, _, _, hE⟩ := h
  exact hE
theorem law_all (T : Bi mg) (F_is_sign : Defd K mg "is_sign" s_is_sign ["thing"]) (F_kept : Defd K mg "kept" s_kept ["beats", "row"]) (F_char_at : Defd K mg "char_at" s_char_at ["text", "at"]) (F_end_of_run : Defd K mg "end_of_run" s_end_of_run ["text", "at"]) (F_together : Defd K mg "together" s_together ["beats", "row", "other_beats", "other"]) (F_size_of_run : Defd K mg "size_of_run" s_size_of_run ["text", "at", "end"]) (F_read_whole : Defd K mg "read_whole" s_read_whole ["text", "at", "beats"]) (F_read_item : Defd K mg "read_item" s_read_item ["text", "at", "deep"]) (F_read_part : Defd K mg "read_part" s_read_part ["text", "at", "deep"]) (F_read_parts : Defd K mg "read_parts" s_read_parts ["text", "at", "deep"]) (F_read_round : Defd K mg "read_round" s_read_round ["text"]) (F_mix : Defd K mg "_law_mix" s_l_mix ["_law_cell", "_law_turn"]) (F_draw : Defd K mg "_law_draw" s_l_draw ["_law_script"]) (F_pick : Defd K mg "_law_pick" s_l_pick ["_law_draw_here", "_law_many"]) (F_l_sign : Defd K mg "_law_sign" s_l_sign ["_law_draw_here"]) (F_l_round : Defd K mg "_law_round" s_l_round ["_law_draw_here", "_law_most"]) (F_l_bent : Defd K mg "_law_bent" s_l_bent ["_law_draw_here", "_law_row"]) (F_wrong_sign : Defd K mg "wrong_sign" s_wrong_sign ["text"]) (F_check_round : Defd K mg "check_round" s_check_round ["row"]) (F_check_rounds : Defd K mg "check_rounds" s_check_rounds ["first", "second"]) (F_turned_row : Defd K mg "turned_row" s_turned_row ["row", "beats"]) (F_shortest_row : Defd K mg "shortest_row" s_shortest_row ["row"]) (F_is_integer : Defd K mg "is_integer" s_is_integer ["thing"]) (F_turned : Defd K mg "turned" s_turned ["row", "beats"]) (F_alike : Defd K mg "alike" s_alike ["first", "second"]) (F_parting : Defd K mg "parting" s_parting ["first", "second"]) (F_laid_over : Defd K mg "laid_over" s_laid_over ["first", "second"]) (F_l_parting : Defd K mg "_law_parting" s_l_parting ["_law_first", "_law_second"]) (F_l_over : Defd K mg "_law_over" s_l_over ["_law_first", "_law_second"]) (F_l_agreeing : Defd K mg "_law_agreeing" s_l_agreeing ["_law_draw_here", "_law_one", "_law_two", "_law_many"]) (F_l_two_rounds : Defd K mg "_law_two_rounds" s_l_two_rounds ["_law_draw_here"]) (F_l_is_int : Defd K mg "_law_is_int" s_l_is_int ["_law_thing"]) (F_l_call : Defd K mg "_law_call" s_l_call ["_law_kind", "_law_first", "_law_second"]) (F_l_told : Defd K mg "_law_told" s_l_told ["_law_kind", "_law_first", "_law_second"]) (F_l_equal : Defd K mg "_law_equal" s_l_equal ["_law_told_here", "_law_due"]) (F_l_pair_right : Defd K mg "_law_pair_right" s_l_pair_right ["_law_draw_here", "_law_first", "_law_second"]) (F_l_bad_round : Defd K mg "_law_bad_round" s_l_bad_round ["_law_draw_here", "_law_row"]) {A_BadRound A_BadBeats A_BadText A_TooLong A_GlimError : Addr} (E_BadRound : Err P w K mg base "BadRound" A_BadRound "number") (E_BadBeats : Err P w K mg base "BadBeats" A_BadBeats "beats") (E_BadText : Err P w K mg base "BadText" A_BadText "at") (E_TooLong : Err P w K mg base "TooLong" A_TooLong "number") (g_GlimError : mg "GlimError" = some (.ref A_GlimError)) (W2 : Two K A_BadRound A_TooLong A_GlimError)
    (c_SIGNS : ∃ u, mg "SIGNS" = some u ∧ RelV (.str (S SGL)) u) (c_DIGITS : ∃ u, mg "DIGITS" = some u ∧ RelV (.str (S DGL)) u) (c_DARK : ∃ u, mg "DARK" = some u ∧ RelV (.str (S [46])) u) (c_MOST_BEATS : ∃ u, mg "MOST_BEATS" = some u ∧ RelV (.int 24) u)
    (c_MOST_DEEP : ∃ u, mg "MOST_DEEP" = some u ∧ RelV (.int 6) u) (c_LEAST_TIMES : ∃ u, mg "LEAST_TIMES" = some u ∧ RelV (.int 2) u) (c_MOST_TIMES : ∃ u, mg "MOST_TIMES" = some u ∧ RelV (.int 24) u) (g_lcm : mg "lcm" = some (.builtin "math.lcm")) {f : Addr} {fd : FuncData} (F : Fun K "law" "law" s_law f fd) : FnOk P w K mg base (L2.CX P w) 29 f fd ["_law_script"] (spLaw K) := by
  have C_is_sign : Can P w K mg base L2.CX0 1 "is_sign" ["thing"] spIsSign := by
    apply can_is_sign T F_is_sign <;> assumption
  have C_kept : Can P w K mg base L2.CX0 1 "kept" ["beats", "row"] spKept := by
    apply can_kept T F_kept <;> assumption
  have C_char_at : Can P w K mg base L2.CX0 1 "char_at" ["text", "at"] spChar := by
    apply can_char_at T F_char_at <;> assumption
  have C_end_of_run : Can P w K mg base L2.CX0 1 "end_of_run" ["text", "at"] spEnd := by
    apply can_end_of_run T F_end_of_run <;> assumption
  have C_together : Can P w K mg base L2.CX0 1 "together" ["beats", "row", "other_beats", "other"] spTogether := by
    apply can_together T F_together <;> assumption
  have C_size_of_run : Can P w K mg base (L2.CX P w) 3 "size_of_run" ["text", "at", "end"] (spSize A_BadText) := by
    apply can_size_of_run T F_size_of_run <;> assumption
  have C_read_whole : Can P w K mg base (L2.CX P w) 4 "read_whole" ["text", "at", "beats"] (spWhole A_BadText) := by
    apply can_read_whole T F_read_whole <;> assumption
  have C_read_parts : Can P w K mg base (L2.CX P w) 24 "read_parts" ["text", "at", "deep"] (spParts A_BadText 6) := by
    refine can_reader T F_read_item F_read_part F_read_parts ?_ ?_ ?_ ?_ ?_ ?_ ?_ ?_ ?_ ?_ ?_ ?_ ?_ ?_ 6 (Nat.le_refl _) <;> assumption
  have C_read_round : Can P w K mg base (L2.CX P w) 25 "read_round" ["text"] (spReadRound K A_BadText A_TooLong) := by
    apply can_read_round T F_read_round <;> assumption
  have C_l_mix := can_mix (P := P) (w := w) (base := base) T F_mix
  have C_l_draw := can_draw (P := P) (w := w) (base := base) T F_draw
  have C_l_pick := can_pick (P := P) (w := w) (base := base) T F_pick C_l_mix
  have C_l_sign : Can P w K mg base L2.CX0 3 "_law_sign" ["_law_draw_here"] spSign := by
    apply can_l_sign T F_l_sign <;> assumption
  have C_l_round : Can P w K mg base L2.CX0 4 "_law_round" ["_law_draw_here", "_law_most"] spRound := by
    apply can_l_round T F_l_round <;> assumption
  have C_l_bent : Can P w K mg base L2.CX0 4 "_law_bent" ["_law_draw_here", "_law_row"] spBent := by
    apply can_l_bent T F_l_bent <;> assumption
  have C_wrong_sign : Can P w K mg base L2.CX0 1 "wrong_sign" ["text"] spWrong := by
    apply can_wrong_sign T F_wrong_sign <;> assumption
  have C_check_round : Can P w K mg base (L2.CX P w) 3 "check_round" ["row"] (spCheck A_BadRound) := by
    apply can_check_round T F_check_round <;> assumption
  have C_check_rounds : Can P w K mg base (L2.CX P w) 4 "check_rounds" ["first", "second"] (spChecks A_BadRound) := by
    apply can_check_rounds T F_check_rounds <;> assumption
  have C_turned_row : Can P w K mg base L2.CX0 1 "turned_row" ["row", "beats"] spTurnedRow := by
    apply can_turned_row T F_turned_row <;> assumption
  have C_shortest_row : Can P w K mg base L2.CX0 1 "shortest_row" ["row"] spShortest := by
    apply can_shortest_row T F_shortest_row <;> assumption
  have C_is_integer : Can P w K mg base L2.CX0 1 "is_integer" ["thing"] spIsInt := by
    apply can_is_integer T F_is_integer <;> assumption
  have C_turned : Can P w K mg base (L2.CX P w) 4 "turned" ["row", "beats"] (spTurned A_BadRound A_BadBeats) := by
    apply can_turned T F_turned <;> assumption
  have C_alike : Can P w K mg base (L2.CX P w) 5 "alike" ["first", "second"] (spAlike A_BadRound) := by
    apply can_alike T F_alike <;> assumption
  have C_parting : Can P w K mg base (L2.CX P w) 5 "parting" ["first", "second"] (spParting A_BadRound) := by
    apply can_parting T F_parting <;> assumption
  have C_laid_over : Can P w K mg base (L2.CX P w) 5 "laid_over" ["first", "second"] (spLaid A_BadRound A_TooLong) := by
    apply can_laid_over T F_laid_over <;> assumption
  have C_l_parting : Can P w K mg base L2.CX0 1 "_law_parting" ["_law_first", "_law_second"] spLParting := by
    apply can_l_parting T F_l_parting <;> assumption
  have C_l_over : Can P w K mg base L2.CX0 1 "_law_over" ["_law_first", "_law_second"] spOver := by
    apply can_l_over T F_l_over <;> assumption
  have C_l_agreeing : Can P w K mg base L2.CX0 4 "_law_agreeing" ["_law_draw_here", "_law_one", "_law_two", "_law_many"] spAgreeing := by
    apply can_l_agreeing T F_l_agreeing <;> assumption
  have C_l_two_rounds : Can P w K mg base L2.CX0 5 "_law_two_rounds" ["_law_draw_here"] spRounds := by
    apply can_l_two_rounds T F_l_two_rounds <;> assumption
  have C_l_is_int : Can P w K mg base L2.CX0 1 "_law_is_int" ["_law_thing"] spIsInt := by
    apply can_l_is_int T F_l_is_int <;> assumption
  have C_l_call : Can P w K mg base (L2.CX P w) 26 "_law_call" ["_law_kind", "_law_first", "_law_second"] (spCall A_BadRound A_TooLong) := by
    apply can_l_call T F_l_call <;> assumption
  have C_l_told : Can P w K mg base L2.CX0 27 "_law_told" ["_law_kind", "_law_first", "_law_second"] (spTold A_BadRound A_TooLong) := by
    apply can_l_told T F_l_told <;> assumption
  have C_l_equal : Can P w K mg base L2.CX0 2 "_law_equal" ["_law_told_here", "_law_due"] spEqual := by
    apply can_l_equal T F_l_equal <;> assumption
  have C_l_pair_right : Can P w K mg base (L2.CX P w) 28 "_law_pair_right" ["_law_draw_here", "_law_first", "_law_second"] spPairRight := by
    apply can_l_pair_right T F_l_pair_right <;> assumption
  have C_l_bad_round : Can P w K mg base L2.CX0 3 "_law_bad_round" ["_law_draw_here", "_law_row"] spBadRound := by
    apply can_l_bad_round T F_l_bad_round <;> assumption
  apply ok_law T F <;> assumption
end
end Fk

set_option Elab.async false
set_option linter.all false
set_option maxRecDepth 100000
open PySem PySem.W PyProof.Rows
set_option maxHeartbeats 8000000 in
theorem PySem.Challenge.cw_falseglim_k08_whole_parted_rounds_holds : PySem.Challenge.rw_falseglim_k08_whole_parted_rounds.Holds := by
  w_on; o_law; k_head; (case hw => w_witness2)
  k_fill
  refine L2.walk_of (l := PySem.Challenge.rw_falseglim_k08_whole_parted_rounds) (n := 63) (k := 29) (x := "_law_script") (CX := fun w => L2.CX PySem.Challenge.rw_falseglim_k08_whole_parted_rounds.prog w) (sp := fun w => Fk.spLaw _) rfl (by decide) rfl ⟨rfl, by decide, by decide⟩ (fun w h Y => PySem.W.kIn_of Y) ?F (fun _ _ a ns hl _ hS => ⟨a, ns, rfl, hS, hl, fun _ => rfl⟩) (fun w H s e s2 h => Fk.no_air h)
  case F =>
    intro w mg fa h KX G hmg
    refine' Fg.bi_do KX G ?z0 ?z1 ?z2 ?z3 ?z4 ?z5 ?z6 ?z7 ?z8 ?z9 ?z10 ?z11 ?z12 ?z13 ?z14 ?z15 ?z16 ?z17 ?_
    (case z0 => k_is); (case z1 => k_is); (case z2 => k_is); (case z3 => k_is); (case z4 => k_is); (case z5 => k_is); (case z6 => k_is); (case z7 => k_is); (case z8 => k_is); (case z9 => k_is); (case z10 => k_is); (case z11 => k_is); (case z12 => k_is); (case z13 => k_is); (case z14 => k_is); (case z15 => k_is); (case z16 => k_is); (case z17 => k_is)
    intro T
    refine' Fg.defd_do KX G "is_sign" Fk.s_is_sign ["thing"] ?ais_sign ?lis_sign ?cis_sign ?kis_sign (fun _ _ _ _ _ _ us hl => match us, hl with | [_], _ => rfl) ?_
    (case ais_sign => k_is); (case lis_sign => k_is); (case cis_sign => k_is); (case kis_sign => k_is)
    intro F_is_sign
    refine' Fg.defd_do KX G "kept" Fk.s_kept ["beats", "row"] ?akept ?lkept ?ckept ?kkept (fun _ _ _ _ _ _ us hl => match us, hl with | [_, _], _ => rfl) ?_
    (case akept => k_is); (case lkept => k_is); (case ckept => k_is); (case kkept => k_is)
    intro F_kept
    refine' Fg.defd_do KX G "char_at" Fk.s_char_at ["text", "at"] ?achar_at ?lchar_at ?cchar_at ?kchar_at (fun _ _ _ _ _ _ us hl => match us, hl with | [_, _], _ => rfl) ?_
    (case achar_at => k_is); (case lchar_at => k_is); (case cchar_at => k_is); (case kchar_at => k_is)
    intro F_char_at
    refine' Fg.defd_do KX G "end_of_run" Fk.s_end_of_run ["text", "at"] ?aend_of_run ?lend_of_run ?cend_of_run ?kend_of_run (fun _ _ _ _ _ _ us hl => match us, hl with | [_, _], _ => rfl) ?_
    (case aend_of_run => k_is); (case lend_of_run => k_is); (case cend_of_run => k_is); (case kend_of_run => k_is)
    intro F_end_of_run
    refine' Fg.defd_do KX G "together" Fk.s_together ["beats", "row", "other_beats", "other"] ?atogether ?ltogether ?ctogether ?ktogether (fun _ _ _ _ _ _ us hl => match us, hl with | [_, _, _, _], _ => rfl) ?_
    (case atogether => k_is); (case ltogether => k_is); (case ctogether => k_is); (case ktogether => k_is)
    intro F_together
    refine' Fg.defd_do KX G "size_of_run" Fk.s_size_of_run ["text", "at", "end"] ?asize_of_run ?lsize_of_run ?csize_of_run ?ksize_of_run (fun _ _ _ _ _ _ us hl => match us, hl with | [_, _, _], _ => rfl) ?_
    (case asize_of_run => k_is); (case lsize_of_run => k_is); (case csize_of_run => k_is); (case ksize_of_run => k_is)
    intro F_size_of_run
    refine' Fg.defd_do KX G "read_whole" Fk.s_read_whole ["text", "at", "beats"] ?aread_whole ?lread_whole ?cread_whole ?kread_whole (fun _ _ _ _ _ _ us hl => match us, hl with | [_, _, _], _ => rfl) ?_
    (case aread_whole => k_is); (case lread_whole => k_is); (case cread_whole => k_is); (case kread_whole => k_is)
    intro F_read_whole
    refine' Fg.defd_do KX G "read_item" Fk.s_read_item ["text", "at", "deep"] ?aread_item ?lread_item ?cread_item ?kread_item (fun _ _ _ _ _ _ us hl => match us, hl with | [_, _, _], _ => rfl) ?_
    (case aread_item => k_is); (case lread_item => k_is); (case cread_item => k_is); (case kread_item => k_is)
    intro F_read_item
    refine' Fg.defd_do KX G "read_part" Fk.s_read_part ["text", "at", "deep"] ?aread_part ?lread_part ?cread_part ?kread_part (fun _ _ _ _ _ _ us hl => match us, hl with | [_, _, _], _ => rfl) ?_
    (case aread_part => k_is); (case lread_part => k_is); (case cread_part => k_is); (case kread_part => k_is)
    intro F_read_part
    refine' Fg.defd_do KX G "read_parts" Fk.s_read_parts ["text", "at", "deep"] ?aread_parts ?lread_parts ?cread_parts ?kread_parts (fun _ _ _ _ _ _ us hl => match us, hl with | [_, _, _], _ => rfl) ?_
    (case aread_parts => k_is); (case lread_parts => k_is); (case cread_parts => k_is); (case kread_parts => k_is)
    intro F_read_parts
    refine' Fg.defd_do KX G "read_round" Fk.s_read_round ["text"] ?aread_round ?lread_round ?cread_round ?kread_round (fun _ _ _ _ _ _ us hl => match us, hl with | [_], _ => rfl) ?_
    (case aread_round => k_is); (case lread_round => k_is); (case cread_round => k_is); (case kread_round => k_is)
    intro F_read_round
    refine' Fg.defd_do KX G "_law_mix" Fk.s_l_mix ["_law_cell", "_law_turn"] ?amix ?lmix ?cmix ?kmix (fun _ _ _ _ _ _ us hl => match us, hl with | [_, _], _ => rfl) ?_
    (case amix => k_is); (case lmix => k_is); (case cmix => k_is); (case kmix => k_is)
    intro F_mix
    refine' Fg.defd_do KX G "_law_draw" Fk.s_l_draw ["_law_script"] ?adraw ?ldraw ?cdraw ?kdraw (fun _ _ _ _ _ _ us hl => match us, hl with | [_], _ => rfl) ?_
    (case adraw => k_is); (case ldraw => k_is); (case cdraw => k_is); (case kdraw => k_is)
    intro F_draw
    refine' Fg.defd_do KX G "_law_pick" Fk.s_l_pick ["_law_draw_here", "_law_many"] ?apick ?lpick ?cpick ?kpick (fun _ _ _ _ _ _ us hl => match us, hl with | [_, _], _ => rfl) ?_
    (case apick => k_is); (case lpick => k_is); (case cpick => k_is); (case kpick => k_is)
    intro F_pick
    refine' Fg.defd_do KX G "_law_sign" Fk.s_l_sign ["_law_draw_here"] ?al_sign ?ll_sign ?cl_sign ?kl_sign (fun _ _ _ _ _ _ us hl => match us, hl with | [_], _ => rfl) ?_
    (case al_sign => k_is); (case ll_sign => k_is); (case cl_sign => k_is); (case kl_sign => k_is)
    intro F_l_sign
    refine' Fg.defd_do KX G "_law_round" Fk.s_l_round ["_law_draw_here", "_law_most"] ?al_round ?ll_round ?cl_round ?kl_round (fun _ _ _ _ _ _ us hl => match us, hl with | [_, _], _ => rfl) ?_
    (case al_round => k_is); (case ll_round => k_is); (case cl_round => k_is); (case kl_round => k_is)
    intro F_l_round
    refine' Fg.defd_do KX G "_law_bent" Fk.s_l_bent ["_law_draw_here", "_law_row"] ?al_bent ?ll_bent ?cl_bent ?kl_bent (fun _ _ _ _ _ _ us hl => match us, hl with | [_, _], _ => rfl) ?_
    (case al_bent => k_is); (case ll_bent => k_is); (case cl_bent => k_is); (case kl_bent => k_is)
    intro F_l_bent
    refine' Fg.defd_do KX G "wrong_sign" Fk.s_wrong_sign ["text"] ?awrong_sign ?lwrong_sign ?cwrong_sign ?kwrong_sign (fun _ _ _ _ _ _ us hl => match us, hl with | [_], _ => rfl) ?_
    (case awrong_sign => k_is); (case lwrong_sign => k_is); (case cwrong_sign => k_is); (case kwrong_sign => k_is)
    intro F_wrong_sign
    refine' Fg.defd_do KX G "check_round" Fk.s_check_round ["row"] ?acheck_round ?lcheck_round ?ccheck_round ?kcheck_round (fun _ _ _ _ _ _ us hl => match us, hl with | [_], _ => rfl) ?_
    (case acheck_round => k_is); (case lcheck_round => k_is); (case ccheck_round => k_is); (case kcheck_round => k_is)
    intro F_check_round
    refine' Fg.defd_do KX G "check_rounds" Fk.s_check_rounds ["first", "second"] ?acheck_rounds ?lcheck_rounds ?ccheck_rounds ?kcheck_rounds (fun _ _ _ _ _ _ us hl => match us, hl with | [_, _], _ => rfl) ?_
    (case acheck_rounds => k_is); (case lcheck_rounds => k_is); (case ccheck_rounds => k_is); (case kcheck_rounds => k_is)
    intro F_check_rounds
    refine' Fg.defd_do KX G "turned_row" Fk.s_turned_row ["row", "beats"] ?aturned_row ?lturned_row ?cturned_row ?kturned_row (fun _ _ _ _ _ _ us hl => match us, hl with | [_, _], _ => rfl) ?_
    (case aturned_row => k_is); (case lturned_row => k_is); (case cturned_row => k_is); (case kturned_row => k_is)
    intro F_turned_row
    refine' Fg.defd_do KX G "shortest_row" Fk.s_shortest_row ["row"] ?ashortest_row ?lshortest_row ?cshortest_row ?kshortest_row (fun _ _ _ _ _ _ us hl => match us, hl with | [_], _ => rfl) ?_
    (case ashortest_row => k_is); (case lshortest_row => k_is); (case cshortest_row => k_is); (case kshortest_row => k_is)
    intro F_shortest_row
    refine' Fg.defd_do KX G "is_integer" Fk.s_is_integer ["thing"] ?ais_integer ?lis_integer ?cis_integer ?kis_integer (fun _ _ _ _ _ _ us hl => match us, hl with | [_], _ => rfl) ?_
    (case ais_integer => k_is); (case lis_integer => k_is); (case cis_integer => k_is); (case kis_integer => k_is)
    intro F_is_integer
    refine' Fg.defd_do KX G "turned" Fk.s_turned ["row", "beats"] ?aturned ?lturned ?cturned ?kturned (fun _ _ _ _ _ _ us hl => match us, hl with | [_, _], _ => rfl) ?_
    (case aturned => k_is); (case lturned => k_is); (case cturned => k_is); (case kturned => k_is)
    intro F_turned
    refine' Fg.defd_do KX G "alike" Fk.s_alike ["first", "second"] ?aalike ?lalike ?calike ?kalike (fun _ _ _ _ _ _ us hl => match us, hl with | [_, _], _ => rfl) ?_
    (case aalike => k_is); (case lalike => k_is); (case calike => k_is); (case kalike => k_is)
    intro F_alike
    refine' Fg.defd_do KX G "parting" Fk.s_parting ["first", "second"] ?aparting ?lparting ?cparting ?kparting (fun _ _ _ _ _ _ us hl => match us, hl with | [_, _], _ => rfl) ?_
    (case aparting => k_is); (case lparting => k_is); (case cparting => k_is); (case kparting => k_is)
    intro F_parting
    refine' Fg.defd_do KX G "laid_over" Fk.s_laid_over ["first", "second"] ?alaid_over ?llaid_over ?claid_over ?klaid_over (fun _ _ _ _ _ _ us hl => match us, hl with | [_, _], _ => rfl) ?_
    (case alaid_over => k_is); (case llaid_over => k_is); (case claid_over => k_is); (case klaid_over => k_is)
    intro F_laid_over
    refine' Fg.defd_do KX G "_law_parting" Fk.s_l_parting ["_law_first", "_law_second"] ?al_parting ?ll_parting ?cl_parting ?kl_parting (fun _ _ _ _ _ _ us hl => match us, hl with | [_, _], _ => rfl) ?_
    (case al_parting => k_is); (case ll_parting => k_is); (case cl_parting => k_is); (case kl_parting => k_is)
    intro F_l_parting
    refine' Fg.defd_do KX G "_law_over" Fk.s_l_over ["_law_first", "_law_second"] ?al_over ?ll_over ?cl_over ?kl_over (fun _ _ _ _ _ _ us hl => match us, hl with | [_, _], _ => rfl) ?_
    (case al_over => k_is); (case ll_over => k_is); (case cl_over => k_is); (case kl_over => k_is)
    intro F_l_over
    refine' Fg.defd_do KX G "_law_agreeing" Fk.s_l_agreeing ["_law_draw_here", "_law_one", "_law_two", "_law_many"] ?al_agreeing ?ll_agreeing ?cl_agreeing ?kl_agreeing (fun _ _ _ _ _ _ us hl => match us, hl with | [_, _, _, _], _ => rfl) ?_
    (case al_agreeing => k_is); (case ll_agreeing => k_is); (case cl_agreeing => k_is); (case kl_agreeing => k_is)
    intro F_l_agreeing
    refine' Fg.defd_do KX G "_law_two_rounds" Fk.s_l_two_rounds ["_law_draw_here"] ?al_two_rounds ?ll_two_rounds ?cl_two_rounds ?kl_two_rounds (fun _ _ _ _ _ _ us hl => match us, hl with | [_], _ => rfl) ?_
    (case al_two_rounds => k_is); (case ll_two_rounds => k_is); (case cl_two_rounds => k_is); (case kl_two_rounds => k_is)
    intro F_l_two_rounds
    refine' Fg.defd_do KX G "_law_is_int" Fk.s_l_is_int ["_law_thing"] ?al_is_int ?ll_is_int ?cl_is_int ?kl_is_int (fun _ _ _ _ _ _ us hl => match us, hl with | [_], _ => rfl) ?_
    (case al_is_int => k_is); (case ll_is_int => k_is); (case cl_is_int => k_is); (case kl_is_int => k_is)
    intro F_l_is_int
    refine' Fg.defd_do KX G "_law_call" Fk.s_l_call ["_law_kind", "_law_first", "_law_second"] ?al_call ?ll_call ?cl_call ?kl_call (fun _ _ _ _ _ _ us hl => match us, hl with | [_, _, _], _ => rfl) ?_
    (case al_call => k_is); (case ll_call => k_is); (case cl_call => k_is); (case kl_call => k_is)
    intro F_l_call
    refine' Fg.defd_do KX G "_law_told" Fk.s_l_told ["_law_kind", "_law_first", "_law_second"] ?al_told ?ll_told ?cl_told ?kl_told (fun _ _ _ _ _ _ us hl => match us, hl with | [_, _, _], _ => rfl) ?_
    (case al_told => k_is); (case ll_told => k_is); (case cl_told => k_is); (case kl_told => k_is)
    intro F_l_told
    refine' Fg.defd_do KX G "_law_equal" Fk.s_l_equal ["_law_told_here", "_law_due"] ?al_equal ?ll_equal ?cl_equal ?kl_equal (fun _ _ _ _ _ _ us hl => match us, hl with | [_, _], _ => rfl) ?_
    (case al_equal => k_is); (case ll_equal => k_is); (case cl_equal => k_is); (case kl_equal => k_is)
    intro F_l_equal
    refine' Fg.defd_do KX G "_law_pair_right" Fk.s_l_pair_right ["_law_draw_here", "_law_first", "_law_second"] ?al_pair_right ?ll_pair_right ?cl_pair_right ?kl_pair_right (fun _ _ _ _ _ _ us hl => match us, hl with | [_, _, _], _ => rfl) ?_
    (case al_pair_right => k_is); (case ll_pair_right => k_is); (case cl_pair_right => k_is); (case kl_pair_right => k_is)
    intro F_l_pair_right
    refine' Fg.defd_do KX G "_law_bad_round" Fk.s_l_bad_round ["_law_draw_here", "_law_row"] ?al_bad_round ?ll_bad_round ?cl_bad_round ?kl_bad_round (fun _ _ _ _ _ _ us hl => match us, hl with | [_, _], _ => rfl) ?_
    (case al_bad_round => k_is); (case ll_bad_round => k_is); (case cl_bad_round => k_is); (case kl_bad_round => k_is)
    intro F_l_bad_round
    refine' Fg.lawd_do KX G "law" Fk.s_law "_law_script" ?alaw ?llaw ?claw ?klaw (fun _ _ _ _ _ _ us hl => match us, hl with | [_], _ => rfl) ?_
    (case alaw => k_is); (case llaw => k_is); (case claw => k_is); (case klaw => k_is)
    intro fl fdl bl Fl gl
    refine' Fg.errc_do KX "BadRound" "BadRound.__init__" "number" (L2.inClass (Fk.topS 3) 0) ["self", "number"] ?a1BadRound ?a2BadRound ?a4BadRound ?a5BadRound ?a6BadRound ?a7BadRound ?a8BadRound ?a9BadRound ?b1BadRound ?b2BadRound ?b3BadRound ?b4BadRound ?b5BadRound ?b6BadRound ?b7BadRound ?b8BadRound ?b9BadRound ?c1BadRound ?c2BadRound (fun _ _ _ _ _ _ us hl => match us, hl with | [_, _], _ => rfl) ?a3BadRound ?_
    (case a1BadRound => k_is); (case a2BadRound => k_is); (case a4BadRound => k_is); (case a5BadRound => k_is); (case a6BadRound => k_is); (case a7BadRound => k_is); (case a8BadRound => k_is); (case a9BadRound => k_is); (case b1BadRound => k_is); (case b2BadRound => k_is); (case b3BadRound => k_is); (case b4BadRound => k_is); (case b5BadRound => k_is); (case b6BadRound => k_is); (case b7BadRound => k_is); (case b8BadRound => k_is); (case b9BadRound => k_is); (case c1BadRound => k_is); (case c2BadRound => k_is); (case a3BadRound => decide +kernel)
    intro X_BadRound
    refine' Fg.errc_do KX "BadBeats" "BadBeats.__init__" "beats" (L2.inClass (Fk.topS 4) 0) ["self", "beats"] ?a1BadBeats ?a2BadBeats ?a4BadBeats ?a5BadBeats ?a6BadBeats ?a7BadBeats ?a8BadBeats ?a9BadBeats ?b1BadBeats ?b2BadBeats ?b3BadBeats ?b4BadBeats ?b5BadBeats ?b6BadBeats ?b7BadBeats ?b8BadBeats ?b9BadBeats ?c1BadBeats ?c2BadBeats (fun _ _ _ _ _ _ us hl => match us, hl with | [_, _], _ => rfl) ?a3BadBeats ?_
    (case a1BadBeats => k_is); (case a2BadBeats => k_is); (case a4BadBeats => k_is); (case a5BadBeats => k_is); (case a6BadBeats => k_is); (case a7BadBeats => k_is); (case a8BadBeats => k_is); (case a9BadBeats => k_is); (case b1BadBeats => k_is); (case b2BadBeats => k_is); (case b3BadBeats => k_is); (case b4BadBeats => k_is); (case b5BadBeats => k_is); (case b6BadBeats => k_is); (case b7BadBeats => k_is); (case b8BadBeats => k_is); (case b9BadBeats => k_is); (case c1BadBeats => k_is); (case c2BadBeats => k_is); (case a3BadBeats => decide +kernel)
    intro X_BadBeats
    refine' Fg.errc_do KX "BadText" "BadText.__init__" "at" (L2.inClass (Fk.topS 5) 0) ["self", "at"] ?a1BadText ?a2BadText ?a4BadText ?a5BadText ?a6BadText ?a7BadText ?a8BadText ?a9BadText ?b1BadText ?b2BadText ?b3BadText ?b4BadText ?b5BadText ?b6BadText ?b7BadText ?b8BadText ?b9BadText ?c1BadText ?c2BadText (fun _ _ _ _ _ _ us hl => match us, hl with | [_, _], _ => rfl) ?a3BadText ?_
    (case a1BadText => k_is); (case a2BadText => k_is); (case a4BadText => k_is); (case a5BadText => k_is); (case a6BadText => k_is); (case a7BadText => k_is); (case a8BadText => k_is); (case a9BadText => k_is); (case b1BadText => k_is); (case b2BadText => k_is); (case b3BadText => k_is); (case b4BadText => k_is); (case b5BadText => k_is); (case b6BadText => k_is); (case b7BadText => k_is); (case b8BadText => k_is); (case b9BadText => k_is); (case c1BadText => k_is); (case c2BadText => k_is); (case a3BadText => decide +kernel)
    intro X_BadText
    refine' Fg.errc_do KX "TooLong" "TooLong.__init__" "number" (L2.inClass (Fk.topS 6) 0) ["self", "number"] ?a1TooLong ?a2TooLong ?a4TooLong ?a5TooLong ?a6TooLong ?a7TooLong ?a8TooLong ?a9TooLong ?b1TooLong ?b2TooLong ?b3TooLong ?b4TooLong ?b5TooLong ?b6TooLong ?b7TooLong ?b8TooLong ?b9TooLong ?c1TooLong ?c2TooLong (fun _ _ _ _ _ _ us hl => match us, hl with | [_, _], _ => rfl) ?a3TooLong ?_
    (case a1TooLong => k_is); (case a2TooLong => k_is); (case a4TooLong => k_is); (case a5TooLong => k_is); (case a6TooLong => k_is); (case a7TooLong => k_is); (case a8TooLong => k_is); (case a9TooLong => k_is); (case b1TooLong => k_is); (case b2TooLong => k_is); (case b3TooLong => k_is); (case b4TooLong => k_is); (case b5TooLong => k_is); (case b6TooLong => k_is); (case b7TooLong => k_is); (case b8TooLong => k_is); (case b9TooLong => k_is); (case c1TooLong => k_is); (case c2TooLong => k_is); (case a3TooLong => decide +kernel)
    intro X_TooLong
    refine' Fg.glob_do KX G "GlimError" ?agGlimError ?_
    (case agGlimError => k_is)
    intro g_GlimError
    refine' Fg.glob_do KX G "SIGNS" ?agSIGNS ?_
    (case agSIGNS => k_is)
    intro g_SIGNS
    refine' Fg.glob_do KX G "DIGITS" ?agDIGITS ?_
    (case agDIGITS => k_is)
    intro g_DIGITS
    refine' Fg.glob_do KX G "DARK" ?agDARK ?_
    (case agDARK => k_is)
    intro g_DARK
    refine' Fg.glob_do KX G "MOST_BEATS" ?agMOST_BEATS ?_
    (case agMOST_BEATS => k_is)
    intro g_MOST_BEATS
    refine' Fg.glob_do KX G "MOST_DEEP" ?agMOST_DEEP ?_
    (case agMOST_DEEP => k_is)
    intro g_MOST_DEEP
    refine' Fg.glob_do KX G "LEAST_TIMES" ?agLEAST_TIMES ?_
    (case agLEAST_TIMES => k_is)
    intro g_LEAST_TIMES
    refine' Fg.glob_do KX G "MOST_TIMES" ?agMOST_TIMES ?_
    (case agMOST_TIMES => k_is)
    intro g_MOST_TIMES
    refine' Fg.glob_do KX G "lcm" ?aglcm ?_
    (case aglcm => k_is)
    intro g_lcm
    refine' Fk.two_do X_BadRound X_TooLong g_GlimError ?th1 ?th2 ?th3 ?th4 ?th5 ?tk11 ?tk12 ?tk1v ?tk21 ?tk22 ?tk2v ?_
    (case th1 => k_is); (case th2 => k_is); (case th3 => k_is); (case th4 => k_is); (case th5 => k_is); (case tk11 => kit_is); (case tk12 => kit_is); (case tk1v => kit_is); (case tk21 => kit_is); (case tk22 => kit_is); (case tk2v => kit_is)
    intro W2
    have el := hmg.symm.trans gl
    cases el
    refine ⟨fdl, bl, fun base _ _ => ?_⟩
    exact Fk.law_all T F_is_sign F_kept F_char_at F_end_of_run F_together F_size_of_run F_read_whole F_read_item F_read_part F_read_parts F_read_round F_mix F_draw F_pick F_l_sign F_l_round F_l_bent F_wrong_sign F_check_round F_check_rounds F_turned_row F_shortest_row F_is_integer F_turned F_alike F_parting F_laid_over F_l_parting F_l_over F_l_agreeing F_l_two_rounds F_l_is_int F_l_call F_l_told F_l_equal F_l_pair_right F_l_bad_round (Fg.err_mk KX G X_BadRound fun fI fd F => Fk.ok_init_BadRound X_BadRound.o X_BadRound.noN F) (Fg.err_mk KX G X_BadBeats fun fI fd F => Fk.ok_init_BadBeats X_BadBeats.o X_BadBeats.noN F) (Fg.err_mk KX G X_BadText fun fI fd F => Fk.ok_init_BadText X_BadText.o X_BadText.noN F) (Fg.err_mk KX G X_TooLong fun fI fd F => Fk.ok_init_TooLong X_TooLong.o X_TooLong.noN F) g_GlimError W2 ⟨_, g_SIGNS, Fk.rel_lit (by decide +kernel)⟩ ⟨_, g_DIGITS, Fk.rel_lit (by decide +kernel)⟩ ⟨_, g_DARK, Fk.rel_lit (by decide +kernel)⟩ ⟨_, g_MOST_BEATS, _, rfl⟩ ⟨_, g_MOST_DEEP, _, rfl⟩ ⟨_, g_LEAST_TIMES, _, rfl⟩ ⟨_, g_MOST_TIMES, _, rfl⟩ g_lcm Fl

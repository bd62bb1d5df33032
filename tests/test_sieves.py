"""[1.4] to [1.6]: probes, sieves and their texts."""

import itertools
import unittest

from tierstore.errors import BadSieve
from tierstore.sieves import may_have, probe, read_sieve, sieve_of, sieve_text

BEYOND = 1000003


class Probes(unittest.TestCase):
    def test_places_of_one_sign(self):
        # a is 97: 7 * 31 + 97 = 314, 7 * 37 + 97 = 356, 7 * 41 + 97 = 384.
        for factor, number in [(31, 314), (37, 356), (41, 384)]:
            with self.subTest(factor):
                self.assertEqual(probe(factor)("a", BEYOND), number)
                self.assertEqual(probe(factor)("a", 100), number - 300)

    def test_places_of_two_signs(self):
        # 314 * 31 + 98 = 9832, 356 * 37 + 98 = 13270, 384 * 41 + 98 = 15842.
        for factor, number, place in [(31, 9832, 8), (37, 13270, 6), (41, 15842, 2)]:
            with self.subTest(factor):
                self.assertEqual(probe(factor)("ab", BEYOND), number)
                self.assertEqual(probe(factor)("ab", 16), place)

    def test_the_order_of_the_signs_counts(self):
        # b is 98: (7 * 31 + 98) * 31 + 97 = 9862.
        self.assertEqual(probe(31)("ba", BEYOND), 9862)

    def test_the_number_is_the_rest_by_1000003(self):
        # z is 122: 339, 10631, 329683, and 10220295 - 10 * 1000003 = 220265.
        self.assertEqual(probe(31)("zzzz", BEYOND), 220265)
        self.assertEqual(probe(31)("zzzz", 2 * BEYOND), 220265)
        self.assertEqual(probe(31)("zzzz", 16), 9)
        # 220265 * 31 + 122 = 6828337, and 6828337 - 6 * 1000003 = 828319.
        self.assertEqual(probe(31)("zzzzz", 2 * BEYOND), 828319)

    def test_the_signs_number_is_within_the_rest(self):
        # 332, 10402, 322578, and 322578 * 31 + 112 = 10 * 1000003 just so.
        self.assertEqual(probe(31)("sntp", 2 * BEYOND), 0)
        self.assertEqual(probe(31)("sntp", 8), 0)

    def test_the_least_and_the_greatest_factor(self):
        self.assertEqual(probe(1)("ab", BEYOND), 7 + 97 + 98)
        # 7 * 1000 + 97 = 7097; 7097 * 1000 + 98 - 7 * 1000003 = 97077.
        self.assertEqual(probe(1000)("ab", BEYOND), 97077)

    def test_of_the_size_one_there_is_one_place(self):
        for factor in [1, 31, 1000]:
            self.assertEqual(probe(factor)("a key", 1), 0)

    def test_each_probe_keeps_its_own_factor(self):
        probes = [probe(factor) for factor in (31, 37, 41, 1)]
        self.assertEqual([tell("a", BEYOND) for tell in probes], [314, 356, 384, 104])
        self.assertEqual([tell("a", BEYOND) for tell in reversed(probes)], [104, 384, 356, 314])

    def test_a_probe_asked_again_tells_the_same(self):
        tell = probe(31)
        self.assertEqual([tell("a", 8), tell("ab", 16), tell("a", 8)], [2, 8, 2])


class Sieves(unittest.TestCase):
    def test_no_key_at_all(self):
        self.assertEqual(sieve_of([]), (8, 0))

    def test_one_key(self):
        # The places of a are 314, 356 and 384 by 8: 2, 4 and 0.
        self.assertEqual(sieve_of(["a"]), (8, 1 + 4 + 16))

    def test_two_keys(self):
        # By 16, those of a are 10, 4 and 0, those of ab 8, 6 and 2.
        bits = 2 ** 10 + 2 ** 4 + 2 ** 0 + 2 ** 8 + 2 ** 6 + 2 ** 2
        self.assertEqual(sieve_of(["a", "ab"]), (16, bits))

    def test_places_that_two_probes_share(self):
        # ba, by 8: 9862 is 6, (7 * 37 + 98) * 37 + 97 = 13306 is 2, (7 * 41 + 98) * 41 + 97 = 15882 is 2.
        self.assertEqual(sieve_of(["ba"]), (8, 2 ** 6 + 2 ** 2))

    def test_like_keys_count_once(self):
        self.assertEqual(sieve_of(["a", "a", "a"]), sieve_of(["a"]))
        self.assertEqual(sieve_of(["a", "ab", "a", "ab"]), sieve_of(["a", "ab"]))

    def test_the_order_of_the_keys_does_not_count(self):
        keys = ["a", "b", "ab", "zzzz"]
        for row in itertools.permutations(keys):
            self.assertEqual(sieve_of(list(row)), sieve_of(keys))

    def test_a_sieve_is_a_pair_of_whole_numbers(self):
        for keys in [[], ["a"], ["a", "b"]]:
            sieve = sieve_of(keys)
            self.assertEqual([type(sieve)] + [type(part) for part in sieve], [tuple, int, int])

    def test_the_size_is_eight_times_the_unlike_keys(self):
        for many in [1, 2, 3, 100, 2000]:
            self.assertEqual(sieve_of([f"key {number}" for number in range(many)])[0], 8 * many)

    def test_bits_are_just_the_places_of_the_keys(self):
        keys = [f"k{number}" for number in range(50)]
        size, bits = sieve_of(keys)
        places = {probe(factor)(key, size) for key in keys for factor in (31, 37, 41)}
        self.assertEqual(bits, sum(2 ** place for place in places))

    def test_the_list_stays_as_it_is(self):
        keys = ["b", "a", "b", "ab"]
        sieve_of(keys)
        self.assertEqual(keys, ["b", "a", "b", "ab"])

    def test_what_is_told_stays_when_the_list_changes(self):
        keys = ["a"]
        sieve = sieve_of(keys)
        keys.append("ab")
        self.assertEqual(sieve, (8, 21))


class MayHave(unittest.TestCase):
    def test_each_key_of_a_sieve_may_be_had(self):
        for many in [1, 2, 3, 10, 2000]:
            keys = [f"key {number}" for number in range(many)]
            sieve = sieve_of(keys)
            self.assertTrue(all(may_have(sieve, key) is True for key in keys))

    def test_a_key_not_among_them_whose_places_all_have_a_one(self):
        # i is 105, 8 above a, so it has the places of a; those of ad are 2, 0 and 4.
        sieve = sieve_of(["a"])
        self.assertIs(may_have(sieve, "i"), True)
        self.assertIs(may_have(sieve, "ad"), True)

    def test_a_key_with_one_place_that_has_none(self):
        # Of 0, 2 and 4: ah has 6, 4, 0; ab has 0, 6, 2; af has 4, 2, 6.
        sieve = sieve_of(["a"])
        for key in ["ah", "ab", "af"]:
            with self.subTest(key):
                self.assertIs(may_have(sieve, key), False)

    def test_a_key_with_no_place_that_has_a_one(self):
        self.assertIs(may_have(sieve_of(["a"]), "b"), False)

    def test_no_bits_and_all_bits(self):
        for key in ["a", "b", "~" * 20]:
            self.assertIs(may_have((8, 0), key), False)
            self.assertIs(may_have((8, 255), key), True)
            self.assertIs(may_have((64, 0), key), False)
            self.assertIs(may_have((64, 2 ** 64 - 1), key), True)

    def test_places_go_by_the_size_of_the_sieve(self):
        # By 16 those of a are 10, 4 and 0, where by 8 they are 2, 4 and 0.
        self.assertIs(may_have((16, 2 ** 10 + 2 ** 4 + 2 ** 0), "a"), True)
        self.assertIs(may_have((16, 2 ** 2 + 2 ** 4 + 2 ** 0), "a"), False)


class Texts(unittest.TestCase):
    def check_both_ways(self, sieve, text):
        self.assertEqual(sieve_text(sieve), text)
        self.assertEqual(read_sieve(text), sieve)

    def test_no_bit(self):
        self.check_both_ways((8, 0), "8:aa")
        self.check_both_ways((24, 0), "24:aaaaaa")

    def test_some_bits(self):
        self.check_both_ways((8, 21), "8:fb")
        self.check_both_ways((16, 0x4321), "16:bcde")

    def test_all_bits(self):
        self.check_both_ways((8, 255), "8:pp")
        self.check_both_ways((40, 2 ** 40 - 1), "40:pppppppppp")

    def test_the_lowest_four_bits_stand_first(self):
        self.check_both_ways((8, 1), "8:ba")
        self.check_both_ways((8, 16), "8:ab")
        self.check_both_ways((16, 2 ** 15), "16:aaai")

    def test_each_sign(self):
        for number, sign in enumerate("abcdefghijklmnop"):
            self.check_both_ways((8, number), "8:" + sign + "a")
            self.check_both_ways((8, 16 * number), "8:a" + sign)

    def test_all_sieves_of_the_size_eight(self):
        texts = [sieve_text((8, bits)) for bits in range(256)]
        self.assertEqual(len(set(texts)), 256)
        self.assertEqual([read_sieve(text) for text in texts], [(8, bits) for bits in range(256)])

    def test_sieves_of_keys(self):
        for many in [0, 1, 3, 7, 100, 2000]:
            sieve = sieve_of([f"key {number}" for number in range(many)])
            text = sieve_text(sieve)
            self.assertEqual(len(text), len(str(sieve[0])) + 1 + sieve[0] // 4)
            self.assertEqual(read_sieve(text), sieve)

    def test_the_greatest_size(self):
        self.check_both_ways((999992, 2 ** 999991 + 1), "999992:b" + "a" * 249996 + "i")
        self.check_both_ways((999992, 2 ** 999992 - 1), "999992:" + "p" * 249998)

    def test_what_is_read_is_a_pair_of_whole_numbers(self):
        sieve = read_sieve("8:fb")
        self.assertEqual([type(sieve)] + [type(part) for part in sieve], [tuple, int, int])


class Refused(unittest.TestCase):
    def refuse(self, *texts):
        for text in texts:
            with self.subTest(text[:40]):
                with self.assertRaises(BadSieve):
                    read_sieve(text)

    def test_a_size_that_is_no_multiple_of_eight(self):
        self.refuse("4:a", "12:aaa", "1:", "2:", "7:a", "9:aa", "20:aaaaa", "999996:" + "a" * 249999)

    def test_the_size_nought(self):
        self.refuse("0:", "0:a", "0:aa", "00:", "000:")

    def test_a_size_above_the_greatest(self):
        self.refuse("1000000:" + "a" * 250000, "1000008:" + "a" * 250002, "8" * 5000 + ":", "8" * 5000 + ":aa")

    def test_a_size_with_a_nought_ahead(self):
        self.refuse("08:aa", "008:aa", "00000000000000008:aa", "016:aaaa")

    def test_a_size_without_figures(self):
        self.refuse(":", ":aa", ":aaaa")

    def test_other_signs_in_the_size(self):
        self.refuse("-8:aa", "+8:aa", " 8:aa", "8 :aa", "8\n:aa", "\n8:aa")
        self.refuse("1_6:aaaa", "8.0:aa", "0x8:aa", "h:aa", "a:aa")

    def test_no_colon(self):
        self.refuse("8", "8aa", "aa", "8;aa", "8 aa", "16aaaa")

    def test_two_colons(self):
        self.refuse("8::aa", "8::a", "8:a:", "8:aa:", ":8:aa", "8:a:a", "8::")

    def test_other_signs(self):
        self.refuse("8:aq", "8:qa", "8:`a", "8:a`", "8:aA", "8:PP", "8:a0", "8:15")
        self.refuse("8:a ", "8: a", "8:a\n", "8:\na", "8:a\t")

    def test_another_sign_amid_many(self):
        self.refuse("40:pppppqpppp", "40:aaaa aaaaa")

    def test_one_sign_more(self):
        self.refuse("8:aaa", "16:aaaaa", "8:aa\n", "8:aa ", "8:ppp")

    def test_one_sign_fewer(self):
        self.refuse("8:a", "16:aaa", "8:p")

    def test_no_signs_behind_the_colon(self):
        self.refuse("8:", "16:")

    def test_the_empty_text(self):
        self.refuse("")

    def test_other_texts(self):
        self.refuse(" ", "\n", "run 1", "8:aa8:aa", "8:aa\n8:aa")


if __name__ == "__main__":
    unittest.main()

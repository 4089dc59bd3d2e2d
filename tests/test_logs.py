"""[g1], [g2], [g3]: integers, records and logs, written and opened."""

import random
import unittest

import homingtrue.logs
from homingtrue.books import Book
from homingtrue.errors import InvalidBytes, TooMany
from homingtrue.logs import log_of, number_bytes, opened, read_number, read_record, record_of, telling_bytes
from homingtrue.writing import write_club

CLUB = ((("hill", 0, 0), ("mill", 600, -800)),
        ((7, 0, 24), (3, 0, 1), (999, 1, 25)),
        (("north", 300, 400, 360, 900, 0, 0), ("south", 300, 400, 360, 900, 300, 380)))
ENTRIES = [("clock", 0, 0, 300, 900, 9999), ("slip", 0, 7, 400), ("slip", 1, 999, None), ("slip", 1, 999, 0),
           ("slip", 1, 999, 9999), ("stake", 0, 7, 1000), ("stake", 0, 3, 0), ("transfer", 7, 1, "ann"),
           ("transfer", 999, 0, "abcdefgh"), ("transfer", 3, 1, "z"), ("clock", 1, 1, 0, 1, 1)]
NUMBERS = [(0, [0]), (1, [1]), (9, [9]), (127, [127]), (128, [128, 1]), (129, [129, 1]), (255, [255, 1]),
           (256, [128, 2]), (16383, [255, 127]), (16384, [128, 128, 1]), (16385, [129, 128, 1]),
           (32768, [128, 128, 2]), (2097151, [255, 255, 127]), (2097152, [128, 128, 128, 1]),
           (65520, [240, 255, 3]), (128 ** 9, [128] * 9 + [1]), (128 ** 9 - 1, [255] * 8 + [127])]


def known_number(n):
    """The bytes of an integer, by the words of [g1]."""
    digits = [n % 128]
    while n // 128 ** len(digits) > 0:
        digits.append(n // 128 ** len(digits) % 128)
    return [digit + 128 for digit in digits[:-1]] + digits[-1:]


def known_record(body):
    total = 9
    for byte in body:
        total = (total * 139 + byte) % 65521
    return known_number(len(body)) + list(body) + known_number(total)


def known_body(telling):
    """The body of a telling, by the words of [g2]."""
    stamp, source, entry = telling
    body = known_number(stamp) + known_number(source)
    body += known_number(["clock", "slip", "stake", "transfer"].index(entry[0]))
    if entry[0] == "slip":
        entry = entry[:3] + (0 if entry[3] is None else entry[3] + 1,)
    for part in entry[1:]:
        if isinstance(part, str):
            body += known_number(len(part)) + list(part.encode("ascii"))
        else:
            body += known_number(part)
    return body


def club_record(club=CLUB):
    return known_record(list(write_club(club).encode("ascii")))


def book_of(*entries, source=1, club=CLUB):
    book = Book(source, club)
    for entry in entries:
        book.tell(entry)
    return book


def merged_book():
    """A book that holds its tellings in another order than that of their stamps."""
    book = book_of(*ENTRIES[:5], source=3)
    book.merge(book_of(*ENTRIES[5:], source=2))
    book.tell(ENTRIES[0])
    book.merge(book_of(*ENTRIES[::-1], source=9))
    return book


def ends_of(book):
    """The indexes behind the records of the log of a book."""
    ends = [len(club_record(book.club()))]
    for telling in book.held():
        ends.append(ends[-1] + len(known_record(known_body(telling))))
    return ends


class Numbers(unittest.TestCase):
    def test_integers_about_powers_of_128(self):
        for n, told in NUMBERS:
            with self.subTest(n=n):
                self.assertEqual(number_bytes(n), told)
                self.assertEqual(read_number(told, 0), (n, len(told)))
        for power in range(1, 8):
            for n in range(128 ** power - 3, 128 ** power + 3):
                self.assertEqual(number_bytes(n), known_number(n))
                self.assertEqual(read_number(number_bytes(n), 0), (n, power + (n >= 128 ** power)))

    def test_all_small_integers(self):
        for n in range(17000):
            told = number_bytes(n)
            self.assertEqual(told, known_number(n))
            self.assertEqual(read_number(told, 0), (n, len(told)))

    def test_a_number_amidst_others(self):
        data = [200, 7, 128, 1, 0, 255, 127, 5]
        self.assertEqual([read_number(data, at) for at in range(8)],
                         [(968, 2), (7, 2), (128, 4), (1, 4), (0, 5), (16383, 7), (127, 7), (5, 8)])

    def test_a_digit_of_0_at_the_end(self):
        for data in ([128, 0], [129, 0], [255, 0], [128, 128, 0], [255, 255, 0], [128, 0, 1], [129, 128, 0, 5]):
            with self.subTest(data=data):
                self.assertIs(read_number(data, 0), None)
        self.assertEqual(read_number([0], 0), (0, 1))
        self.assertEqual(read_number([0, 0], 0), (0, 1))
        self.assertEqual(read_number([128, 0], 1), (0, 2))
        self.assertEqual(read_number([128, 128, 1], 0), (16384, 3))

    def test_a_number_that_is_cut(self):
        for n, told in NUMBERS:
            for end in range(len(told)):
                self.assertIs(read_number(told[:end], 0), None)
        self.assertIs(read_number([5, 128], 1), None)
        self.assertIs(read_number([5, 255, 255], 1), None)

    def test_an_index_at_the_end_and_behind_it(self):
        for data in ([], [0], [5, 6], [128, 1]):
            for at in range(len(data), len(data) + 4):
                self.assertIs(read_number(data, at), None)
            self.assertIs(read_number(data, 10 ** 30), None)


class Records(unittest.TestCase):
    def test_the_bytes_of_a_record(self):
        self.assertEqual(record_of([]), [0, 9])
        self.assertEqual(record_of([0]), [1, 0, 227, 9])
        self.assertEqual(record_of([1]), [1, 1, 228, 9])
        self.assertEqual(record_of([255]), [1, 255, 226, 11])
        # (9 * 139 + 1) * 139 + 2 = 174030, which is 42988 behind two times 65521.
        self.assertEqual(record_of([1, 2]), [2, 1, 2, 236, 207, 2])
        body = list(range(200))
        self.assertEqual(record_of(body), known_record(body))
        self.assertEqual(record_of(body)[:3], [200, 1, 0])

    def test_a_whole_record(self):
        for body in ([], [0], [9], [255] * 127, [1] * 128, [7] * 129, list(range(256)) * 3):
            data = record_of(body)
            self.assertEqual(data, known_record(body))
            self.assertEqual(read_record(data, 0), (body, len(data)))
            self.assertEqual(read_record([1, 2] + data + [3], 2), (body, len(data) + 2))

    def test_a_record_that_is_cut(self):
        for body in ([], [0], [255] * 127, [1] * 128, [5, 6, 7]):
            data = record_of(body)
            for end in range(len(data)):
                with self.subTest(data=data, end=end):
                    self.assertIs(read_record(data[:end], 0), None)

    def test_an_index_at_the_end_and_behind_it(self):
        for data in ([], record_of([]), record_of([1, 2])):
            for at in (len(data), len(data) + 1, len(data) + 50):
                self.assertIs(read_record(data, at), None)

    def test_a_record_with_a_changed_byte(self):
        data = record_of([1, 2, 3, 200, 0, 0, 128, 77])
        for at in range(len(data)):
            for byte in range(256):
                if byte != data[at]:
                    changed = data[:at] + [byte] + data[at + 1:]
                    self.assertIs(read_record(changed, 0), None)

    def test_a_body_of_another_order(self):
        data = record_of([1, 2, 3])
        self.assertIs(read_record([3, 1, 3, 2] + data[4:], 0), None)
        self.assertIs(read_record([3, 2, 1, 3] + data[4:], 0), None)

    def test_a_length_or_a_sum_that_is_written_otherwise(self):
        self.assertIs(read_record([128, 0, 9], 0), None)
        self.assertIs(read_record([0, 137, 0], 0), None)
        self.assertIs(read_record([129, 0, 1, 228, 9], 0), None)
        self.assertIs(read_record([1, 1, 228, 137, 0], 0), None)
        # The sum is told modulo 65521.
        self.assertIs(read_record([0] + number_bytes(9 + 65521), 0), None)
        self.assertEqual(read_record([0, 9], 0), ([], 2))

    def test_a_length_beyond_all(self):
        self.assertIs(read_record(number_bytes(10 ** 40) + [1, 2, 3], 0), None)
        self.assertIs(read_record([4, 1, 2, 3], 0), None)
        self.assertIs(read_record([3, 1, 2, 3], 0), None)


class Tellings(unittest.TestCase):
    def test_the_body_of_each_kind(self):
        for telling, told in (
                ((1, 2, ("clock", 0, 1, 300, 900, 5)), [1, 2, 0, 0, 1, 172, 2, 132, 7, 5]),
                ((3, 1, ("slip", 1, 7, 400)), [3, 1, 1, 1, 7, 145, 3]),
                ((3, 1, ("slip", 1, 7, None)), [3, 1, 1, 1, 7, 0]),
                ((3, 1, ("slip", 1, 7, 0)), [3, 1, 1, 1, 7, 1]),
                ((3, 1, ("slip", 1, 7, 126)), [3, 1, 1, 1, 7, 127]),
                ((3, 1, ("slip", 1, 7, 127)), [3, 1, 1, 1, 7, 128, 1]),
                ((128, 9, ("stake", 0, 999, 1000)), [128, 1, 9, 2, 0, 231, 7, 232, 7]),
                ((80, 9, ("transfer", 999, 3, "ann")), [80, 9, 3, 231, 7, 3, 3, 97, 110, 110]),
                ((80, 9, ("transfer", 1, 0, "zabcdefy")), [80, 9, 3, 1, 0, 8, 122, 97, 98, 99, 100, 101, 102, 121])):
            with self.subTest(telling=telling):
                self.assertEqual(telling_bytes(telling), told)
                self.assertEqual(known_body(telling), told)


class Logs(unittest.TestCase):
    def test_a_log_of_a_book_without_tellings(self):
        self.assertEqual(log_of(Book(1, CLUB)), club_record())
        self.assertEqual(log_of(Book(1, ((), (), ()))), [0, 9])
        text = "loft a at 0 0\n"
        club = ((("a", 0, 0),), (), ())
        self.assertEqual(log_of(Book(1, club))[:15], [14] + [ord(character) for character in text])

    def test_a_log_is_the_records_in_the_order_in_which_they_are_held(self):
        book = merged_book()
        self.assertNotEqual(book.held(), book.tellings())
        data = club_record()
        for telling in book.held():
            data += known_record(known_body(telling))
        self.assertEqual(log_of(book), data)
        self.assertEqual([type(byte) for byte in data], [int] * len(data))
        self.assertTrue(all(0 <= byte <= 255 for byte in log_of(book)))

    def test_opened_logs_have_what_was_written(self):
        for book in (Book(1, CLUB), book_of(*ENTRIES), merged_book(), Book(2, ((), (), ())),
                     book_of(*[("stake", 0, 7, n) for n in range(80)])):
            for source in (1, 4, 9):
                data = log_of(book)
                found, at = opened(data, source)
                self.assertEqual(at, len(data))
                self.assertEqual((found.source(), found.club()), (source, book.club()))
                self.assertEqual((found.held(), found.tellings()), (book.held(), book.tellings()))
                self.assertEqual(found.state(), book.state())
                self.assertEqual(log_of(found), data)
                self.assertIs(type(found), Book)

    def test_an_opened_book_goes_on(self):
        book, _ = opened(log_of(merged_book()), 5)
        self.assertEqual(book.tell(ENTRIES[5]), (12, 5, ENTRIES[5]))
        self.assertEqual(book.merge(merged_book()), 0)

    def test_the_data_is_not_changed_and_what_is_returned_is_new(self):
        data = log_of(merged_book())
        kept = list(data)
        opened(data, 1)
        body, _ = read_record(data, 0)
        body.append(3)
        record_of(body).append(4)
        self.assertEqual(data, kept)
        self.assertEqual(log_of(merged_book()), kept)
        self.assertEqual(read_record(data, 0)[0], body[:-1])
        for told in (number_bytes(300), record_of([1]), telling_bytes((1, 1, ENTRIES[0])), data, body):
            self.assertIs(type(told), list)


class DamagedLogs(unittest.TestCase):
    def test_a_log_that_is_cut_at_each_byte(self):
        book = merged_book()
        data, ends = log_of(book), ends_of(book)
        for end in range(len(data) + 1):
            if end < ends[0]:
                with self.assertRaises(InvalidBytes) as caught:
                    opened(data[:end], 1)
                self.assertEqual(caught.exception.at, 0)
            else:
                whole = [at for at in ends if at <= end]
                found, at = opened(data[:end], 1)
                self.assertEqual(at, whole[-1])
                self.assertEqual(found.held(), book.held()[:len(whole) - 1])

    def test_a_byte_that_is_changed_behind_the_first_record(self):
        book = book_of(*ENTRIES)
        data, ends = log_of(book), ends_of(book)
        for at in range(ends[0], len(data)):
            for byte in {0, 1, data[at] ^ 1, data[at] ^ 128, 255} - {data[at]}:
                found, end = opened(data[:at] + [byte] + data[at + 1:], 1)
                whole = [other for other in ends if other <= at]
                self.assertEqual(end, whole[-1])
                self.assertEqual(found.held(), book.held()[:len(whole) - 1])

    def test_bytes_behind_the_last_record(self):
        book = book_of(*ENTRIES)
        data = log_of(book)
        for more in ([0], [5], [255, 255], [0, 9], [1, 1, 228, 9], record_of([1] * 20), club_record()):
            found, at = opened(data + more, 1)
            self.assertEqual((found.held(), at), (book.held(), len(data)))

    def test_a_first_record_with_a_changed_byte(self):
        data = log_of(book_of(*ENTRIES))
        for at in range(len(club_record())):
            changed = data[:at] + [data[at] ^ 1] + data[at + 1:]
            with self.assertRaises(InvalidBytes) as caught:
                opened(changed, 1)
            self.assertEqual(caught.exception.at, 0)

    def test_a_first_record_that_is_no_club(self):
        for body in (list(b"loft hill at 0\n"), list(b"loft hill at 0 0 0"), list(b"Loft hill at 0 0"), list(b"x"),
                     [9], [13], [0], [127], [128], [200, 201], [255], list(b"loft hill at 0 0\r\n"),
                     list(b"loft hill at 0 0\t"), list(b"loft hill at 0 0\x00"), list(b"loft hill at 0 0%"),
                     [108 + 128] + list(b"oft hill at 0 0"), list("loft h\xe4ll at 0 0".encode("latin-1")),
                     telling_bytes((1, 1, ENTRIES[0])), list(b"\n\x0b\n")):
            with self.subTest(body=body):
                with self.assertRaises(InvalidBytes) as caught:
                    opened(record_of(body), 1)
                self.assertEqual(caught.exception.at, 0)

    def test_no_bytes(self):
        self.assertRaises(InvalidBytes, opened, [], 1)
        self.assertRaises(InvalidBytes, opened, log_of(book_of(*ENTRIES))[len(club_record()):], 1)

    def test_a_first_record_that_is_read_as_a_club_though_it_is_not_its_normal_text(self):
        for text in ("", "\n\n", "   ", "\n loft   hill at 0 0\n\nbird 7 of hill year 24"):
            data = record_of([ord(character) for character in text])
            book, at = opened(data, 2)
            self.assertEqual((at, book.source(), len(book.club()[0])), (len(data), 2, int("loft" in text)))
            self.assertEqual(opened(log_of(book), 1)[0].club(), book.club())

    def test_a_wrong_source(self):
        for source in (0, 10, -1):
            with self.assertRaises(TooMany) as caught:
                opened(log_of(book_of(*ENTRIES)), source)
            self.assertEqual(caught.exception.limit, 9)
            # The bytes are looked at ahead of the source.
            self.assertRaises(InvalidBytes, opened, [1, 2, 3], source)
            self.assertRaises(InvalidBytes, opened, record_of([9]), source)


class TellingsOfLogs(unittest.TestCase):
    """Records that are whole, and what of them is taken."""

    def check(self, bodies, many, club=CLUB, source=1):
        """Of records with these bodies, the first ones are taken, so many."""
        with self.subTest(bodies=bodies):
            data = club_record(club)
            ends = [len(data)]
            for body in bodies:
                data += known_record(body)
                ends.append(len(data))
            book, at = opened(data, source)
            self.assertEqual((len(book.held()), at), (many, ends[many]))
            self.assertEqual([known_body(telling) for telling in book.held()], bodies[:many])
            return book

    def test_all_right_ones_are_taken(self):
        bodies = [known_body((n + 1, 1 + n % 9, entry)) for n, entry in enumerate(ENTRIES)]
        book = self.check(bodies, len(bodies))
        self.assertEqual([entry for _, _, entry in book.held()], ENTRIES)

    def test_stamps(self):
        right = known_body((1, 1, ENTRIES[5]))
        self.check([right, [0] + right[1:]], 1)
        self.check([[0] + right[1:], right], 0)
        self.check([[0] + right[1:]], 0)
        book = self.check([number_bytes(10 ** 12) + right[1:], right], 2)
        self.assertEqual(book.tellings()[-1], (10 ** 12, 1, ENTRIES[5]))
        self.assertEqual(book.tell(ENTRIES[0])[0], 10 ** 12 + 1)

    def test_stamps_need_not_rise(self):
        self.check([known_body((stamp, 2, ENTRIES[0])) for stamp in (5, 3, 9, 1, 2)], 5)

    def test_sources(self):
        self.check([known_body((1, source, ENTRIES[5])) for source in range(1, 10)], 9)
        for source in (0, 10, 11, 200):
            self.check([known_body((1, 1, ENTRIES[5])), known_body((2, source, ENTRIES[5])),
                        known_body((3, 1, ENTRIES[5]))], 1)

    def test_kinds(self):
        for kind in (4, 5, 127, 128, 1000):
            self.check([[1, 1] + number_bytes(kind) + [0, 7, 5]], 0)
            self.check([[1, 1] + number_bytes(kind)], 0)
        self.check([[1, 1, 2, 0, 7, 5]], 1)

    def test_an_integer_too_many_or_too_few(self):
        for entry in ENTRIES:
            body = known_body((1, 1, entry))
            self.check([body], 1)
            for more in ([0], [5], [128], body):
                self.check([body + more], 0)
            for end in range(len(body)):
                self.check([body[:end]], 0)
        self.check([[]], 0)

    def test_integers_that_are_written_otherwise(self):
        self.check([[1, 1, 2, 0, 7, 5]], 1)
        for body in ([129, 0, 1, 2, 0, 7, 5], [1, 129, 0, 2, 0, 7, 5], [1, 1, 130, 0, 0, 7, 5], [1, 1, 2, 128, 0, 7, 5],
                     [1, 1, 2, 0, 135, 0, 5], [1, 1, 2, 0, 7, 133, 0]):
            self.check([body], 0)
        self.check([[1, 1, 3, 7, 0, 131, 0, 97, 110, 110]], 0)

    def test_entries_that_are_not_right_for_the_club(self):
        for entry in (("clock", 2, 0, 300, 900, 900), ("clock", 0, 2, 300, 900, 900), ("clock", 0, 0, 300, 300, 900),
                      ("clock", 0, 0, 300, 900, 300), ("clock", 0, 0, 300, 10000, 900),
                      ("clock", 0, 0, 10000, 10001, 10001),
                      ("slip", 2, 7, 400), ("slip", 0, 8, 400), ("slip", 0, 0, None), ("slip", 0, 7, 10000),
                      ("stake", 2, 7, 1), ("stake", 0, 8, 1), ("stake", 0, 7, 1001), ("transfer", 8, 0, "ann"),
                      ("transfer", 7, 2, "ann"), ("transfer", 7, 0, ""), ("transfer", 7, 0, "abcdefghi"),
                      ("transfer", 7, 0, "Ann"), ("transfer", 7, 0, "a n"), ("transfer", 7, 0, "an1"),
                      ("transfer", 7, 0, "-"),
                      ("transfer", 7, 0, "a\n"), ("transfer", 7, 0, "{a"), ("transfer", 7, 0, "`a")):
            right = known_body((1, 1, ENTRIES[0]))
            self.check([right, known_body((2, 1, entry)), known_body((3, 1, ENTRIES[0]))], 1)
            self.check([known_body((2, 1, entry))], 0)

    def test_words(self):
        self.check([[1, 1, 3, 7, 0, 3, 97, 110, 122]], 1)
        for word in ([3, 97, 110, 225], [3, 97, 110, 0], [2, 97, 110, 110], [4, 97, 110, 110], [3, 97, 110],
                     [3], [], [0], [255, 97], number_bytes(10 ** 30) + [97]):
            self.check([[1, 1, 3, 7, 0] + word], 0)

    def test_one_that_is_there_already(self):
        first, second = known_body((1, 1, ENTRIES[0])), known_body((2, 1, ENTRIES[5]))
        self.check([first, first, second], 1)
        self.check([first, second, first, known_body((3, 1, ENTRIES[5]))], 2)
        self.check([first, known_body((1, 1, ENTRIES[5])), second], 1)
        self.check([first, known_body((1, 2, ENTRIES[0])), known_body((2, 1, ENTRIES[0]))], 3)

    def test_slips_need_no_clock(self):
        book = self.check([known_body((1, 1, ("slip", 0, 7, 400)))], 1)
        self.assertEqual(book.state()[1], [])

    def test_eighty_and_more(self):
        bodies = [known_body((n + 1, 1, ("stake", 0, 7, n))) for n in range(90)]
        self.check(bodies[:79], 79)
        self.check(bodies[:80], 80)
        self.check(bodies[:81], 80)
        book = self.check(bodies, 80)
        self.assertRaises(TooMany, book.tell, ENTRIES[0])
        self.check(bodies[:79] + [[0]] + bodies[79:], 79)

    def test_many_damaged_logs(self):
        chance = random.Random(81)
        data, held = log_of(merged_book()), merged_book().held()
        ends = ends_of(merged_book())
        for _ in range(600):
            changed = list(data)
            begin = chance.randint(ends[0], len(data) - 10)
            for _ in range(chance.randint(1, 3)):
                at = chance.randint(begin, len(changed) - 1)
                # A byte is left out, put in or changed.
                changed[at:at + chance.randrange(2)] = chance.choice([[], [chance.randrange(256)]])
            book, at = opened(changed, 1)
            whole = len([end for end in ends if end <= begin]) - 1
            self.assertEqual(book.held()[:whole], held[:whole])
            self.assertEqual(changed[:at], log_of(book))


class Interface(unittest.TestCase):
    def test_arguments_have_the_told_names(self):
        book = book_of(*ENTRIES)
        self.assertEqual(number_bytes(n=300), [172, 2])
        self.assertEqual(read_number(data=[172, 2], at=0), (300, 2))
        self.assertEqual(record_of(body=[]), [0, 9])
        self.assertEqual(read_record(data=[0, 9], at=0), ([], 2))
        self.assertEqual(telling_bytes(telling=(1, 1, ("stake", 0, 7, 5))), [1, 1, 2, 0, 7, 5])
        self.assertEqual(opened(data=log_of(book=book), source=2)[0].held(), book.held())

    def test_functions_are_defined_in_their_file(self):
        for function in (number_bytes, read_number, record_of, read_record, telling_bytes, log_of, opened):
            with self.subTest(name=function.__name__):
                self.assertEqual(function.__module__, "homingtrue.logs")
                self.assertIs(getattr(homingtrue.logs, function.__name__), function)


if __name__ == "__main__":
    unittest.main()

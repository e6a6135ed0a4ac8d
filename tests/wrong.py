"""Objects that are not what a part or an argument must be."""

from unittest import mock

NO_INTEGERS = (True, False, None, 2.0, "2", b"2", (), [2], {}, object(), int, mock.ANY)
NO_WORDS = (None, 0, 1, True, "", "NOTLESS", "old ", b"old", ("old",), ["none"], {"none": 1}, object(), str, mock.ANY)
NO_NUMBERS = NO_INTEGERS + (-1, -10 ** 30000)
NO_STARTS = NO_NUMBERS + (0,)

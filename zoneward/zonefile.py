"""Zone files: reading records from lines, and writing records as lines."""

from zoneward.errors import InvalidLine, InvalidName, InvalidText, OutOfRange
from zoneward.names import format_name, parse_name
from zoneward.records import MAX_TTL

QUOTE = '"'
ORIGIN_WORD = "$ORIGIN"
TTL_WORD = "$TTL"

# What the words of the data of each kind stand for.
FORMS = {
    "A": ("address",),
    "NS": ("name",),
    "CNAME": ("name",),
    "SOA": ("name", "number", "number", "number", "number", "number"),
    "MX": ("preference", "name"),
    "TXT": ("text",),
}
MAX_NUMBER = 4294967295
MAX_PREFERENCE = 65535
MAX_BYTE = 255
MAX_TEXT_LENGTH = 255
MAX_DIGITS = 10
BYTES_OF_ADDRESS = 4


def read_zone_file(lines, origin):
    """Return the list of the records of a list of lines. Raise the first error, with the index of its line."""
    reader = LineReader(origin)
    for place, line in enumerate(lines):
        reader.take_line(place, line)
    return reader.records


def write_zone_file(records):
    """Return the list of the lines of records."""
    return [_line_of(record) for record in records]


class LineReader:
    """The records of the lines so far, and what these lines leave behind for the next ones."""

    def __init__(self, origin):
        self.origin = origin
        self.owner_word = None
        self.ttl_word = None
        self.records = []

    def take_line(self, place, line):
        """Read the next line."""
        words = _words_of(place, line)
        if words == []:
            return
        if line.startswith(" "):
            self.take_record(place, [self.owner_word, *words])
        elif words[0] == ORIGIN_WORD:
            self.origin = _values_of(place, words[1:], ("name",), self.origin)[0]
        elif words[0] == TTL_WORD:
            _values_of(place, words[1:], ("ttl",), self.origin)
            self.ttl_word = words[1]
        else:
            self.take_record(place, words)

    def take_record(self, place, words):
        """Read the words of a record, of which the ttl may be left out."""
        if len(words) < 2 or not _is_number(words[1]):
            words = [words[0], self.ttl_word, *words[1:]]
        # An owner or a ttl that was left out is None if no line before tells what it is.
        if None in words or len(words) < 3 or words[2] not in FORMS:
            raise InvalidLine(place)
        owner_word, ttl_word, kind, *data = words
        forms = ("name", "ttl") + FORMS[kind]
        owner, ttl, *values = _values_of(place, [owner_word, ttl_word, *data], forms, self.origin)
        # A later line may have another origin, so the text that it takes must be absolute.
        self.owner_word = format_name(owner)
        self.records.append((owner, kind, ttl, values[0] if len(values) == 1 else tuple(values)))


def _words_of(place, line):
    """Return the words of a line; a quoted string keeps its quotes."""
    words = []
    at = 0
    while at < len(line) and line[at] != ";":
        if line[at] == " ":
            at += 1
        else:
            end = _word_end(place, line, at)
            words.append(line[at:end])
            at = end
    return words


def _word_end(place, line, begin):
    """Return the place behind the word that begins at a place of a line."""
    if line[begin] != QUOTE:
        return _next_of(line, begin, " ;")
    end = _next_of(line, begin + 1, QUOTE) + 1
    if end > len(line) or line[end:end + 1] not in ("", " ", ";"):
        raise InvalidText(place)
    return end


def _next_of(line, begin, characters):
    """Return the next place of a line that has one of some characters, or the line's end."""
    for at in range(begin, len(line)):
        if line[at] in characters:
            return at
    return len(line)


def _values_of(place, words, forms, origin):
    """Return what the words of a line stand for, if each has its form and its bounds."""
    if len(words) != len(forms) or not all([_has_form(word, form) for word, form in zip(words, forms)]):
        raise InvalidLine(place)
    values = [_value_of(place, word, form, origin) for word, form in zip(words, forms)]
    if not all([_is_bounded(word, form) for word, form in zip(words, forms)]):
        raise OutOfRange(place)
    return values


def _has_form(word, form):
    if form == "text":
        return word.startswith(QUOTE)
    if form == "name":
        return not word.startswith(QUOTE)
    if form == "address":
        parts = word.split(".")
        return len(parts) in (1, BYTES_OF_ADDRESS) and all([_is_number(part) for part in parts])
    return _is_number(word)


def _is_number(word):
    return len(word) <= MAX_DIGITS and word.isascii() and word.isdigit()


def _value_of(place, word, form, origin):
    """Return what a word stands for, within its bounds or not."""
    if form == "text":
        return word[1:-1]
    if form == "name":
        return _name_of(place, word, origin)
    if form == "address":
        return _address_of(word)
    return int(word)


def _name_of(place, word, origin):
    """Return the name that a word stands for; an error in it has the place of the line."""
    try:
        return parse_name(word, origin)
    except InvalidName:
        raise InvalidName(place) from None


def _address_of(word):
    """Return the address that a word with one or four numbers stands for."""
    address = 0
    for part in word.split("."):
        address = 256 * address + int(part)
    return address


def _is_bounded(word, form):
    if form == "text":
        return len(word) - 2 <= MAX_TEXT_LENGTH
    if form == "name":
        return True
    if form == "address":
        parts = word.split(".")
        most = MAX_BYTE if len(parts) == BYTES_OF_ADDRESS else MAX_NUMBER
        return all([int(part) <= most for part in parts])
    if form == "ttl":
        return int(word) <= MAX_TTL
    if form == "preference":
        return int(word) <= MAX_PREFERENCE
    return int(word) <= MAX_NUMBER


def _line_of(record):
    """Return the line of a record."""
    name, kind, ttl, value = record
    return " ".join([format_name(name), str(ttl), kind, *_data_words(kind, value)])


def _data_words(kind, value):
    """Return the words that the data of a record are written as."""
    if kind == "A":
        return [str(value)]
    if kind == "SOA":
        primary, *numbers = value
        return [format_name(primary), *[str(number) for number in numbers]]
    if kind == "MX":
        preference, name = value
        return [str(preference), format_name(name)]
    if kind == "TXT":
        return [QUOTE + value + QUOTE]
    return [format_name(value)]

"""What several tests share: the bytes of numbers and labels, and random messages."""

from zoneward.messages import Message

QUERY_CODES = {"A": 1, "NS": 2, "CNAME": 5, "SOA": 6, "MX": 15, "TXT": 16, "IXFR": 251, "AXFR": 252}
RECORD_KINDS = ["A", "NS", "CNAME", "SOA", "MX", "TXT"]


def number_bytes(number, width):
    return list(number.to_bytes(width, "big"))


def label_bytes(label):
    return [len(label)] + list(label.encode("ascii"))


def some_name(source, longest=4):
    return tuple(source.choice(["a", "b", "bb", "-", "_x", "*", "m" * 20]) for _ in range(source.randint(0, longest)))


def some_value(source, kind):
    word = source.choice([0, 1, 255, 256, 65535])
    number = source.choice([0, 1, 65536, 2 ** 31, 2 ** 32 - 1])
    text = "".join(source.choice(" !\"#$&'*./09:@AZ[\\]^_`az{|}~") for _ in range(source.choice([0, 1, 9, 255])))
    return {"A": number, "NS": some_name(source), "CNAME": some_name(source), "MX": (word, some_name(source)),
            "SOA": (some_name(source), number, word, number, 0, 7), "TXT": text}[kind]


def some_records(source, most):
    kinds = [source.choice(RECORD_KINDS) for _ in range(source.randint(0, most))]
    return [(some_name(source), kind, source.choice([0, 1, 86400, 2147483647]), some_value(source, kind))
            for kind in kinds]


def some_message(source, most=6):
    question = (some_name(source), source.choice(list(QUERY_CODES)))
    return Message(source.randint(0, 65535), question, response=source.choice([True, False]),
                   authoritative=source.choice([True, False]), recursion=source.choice([True, False]),
                   code=source.randint(0, 15), answer=some_records(source, most),
                   authority=some_records(source, most), additional=some_records(source, most))

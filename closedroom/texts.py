"""Texts: lists of bytes, the names among them, their lines, places and digits."""

LINE_END = 10
MOST_NAME_BYTES = 32
OTHER_NAME_SIGNS = "._-/"


def text_of(words):
    return [ord(sign) for sign in words]


def decimal(number):
    return text_of(str(number))


def is_digit(byte):
    return ord("0") <= byte <= ord("9")


def is_small_letter(byte):
    return ord("a") <= byte <= ord("z")


def is_great_letter(byte):
    return ord("A") <= byte <= ord("Z")


def is_name(text):
    # The length comes first: a text that's handed over may be far longer than any name.
    if not 1 <= len(text) <= MOST_NAME_BYTES:
        return False
    others = text_of(OTHER_NAME_SIGNS)
    for byte in text:
        if not (is_small_letter(byte) or is_great_letter(byte) or is_digit(byte) or byte in others):
            return False
    return True


def is_number(text, most_digits):
    if not 1 <= len(text) <= most_digits:
        return False
    return all([is_digit(byte) for byte in text])


def number_of(digits):
    number = 0
    for byte in digits:
        number = number * 10 + byte - ord("0")
    return number


def upper_letters(text):
    shift = ord("a") - ord("A")
    return [byte - shift if is_small_letter(byte) else byte for byte in text]


def lines_of(text):
    lines = []
    line = []
    for byte in text:
        if byte == LINE_END:
            lines.append(line)
            line = []
        else:
            line.append(byte)
    # What stands behind a last byte 10 is no line, so an empty rest is dropped.
    if line:
        lines.append(line)
    return lines


def put_lines(lines):
    text = []
    for line in lines:
        text.extend(line)
        text.append(LINE_END)
    return text


def stands_in(piece, text):
    width = len(piece)
    for place in range(len(text) - width + 1):
        if text[place:place + width] == piece:
            return True
    return False


def replaced(text, old, new):
    width = len(old)
    result = []
    place = 0
    while place < len(text):
        if text[place:place + width] == old:
            result.extend(new)
            place += width
        else:
            result.append(text[place])
            place += 1
    return result


def are_bytes(numbers):
    return all([0 <= number <= 255 for number in numbers])


# None stands for numbers that are no list of texts.
def texts_in(numbers):
    texts = []
    place = 0
    while place < len(numbers):
        length = numbers[place]
        place += 1
        if not 0 <= length <= len(numbers) - place:
            return None
        text = numbers[place:place + length]
        if not are_bytes(text):
            return None
        texts.append(text)
        place += length
    return texts

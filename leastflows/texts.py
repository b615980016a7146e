"""Bytes as signs, and signs as bytes."""


def bytes_of(signs):
    return [ord(sign) for sign in signs]


# None, where a byte is none of the allowed signs.
def signs_of(text, allowed):
    known = {}
    for sign in allowed:
        known[ord(sign)] = sign
    signs = []
    for byte in text:
        if byte not in known:
            return None
        signs.append(known[byte])
    return "".join(signs)

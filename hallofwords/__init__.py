"""Rules of words, decided, counted, found, turned and learned, with papers."""

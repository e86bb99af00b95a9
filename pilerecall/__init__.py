"""Programs with one stack and a head that moves both ways, with every surface worked once."""
